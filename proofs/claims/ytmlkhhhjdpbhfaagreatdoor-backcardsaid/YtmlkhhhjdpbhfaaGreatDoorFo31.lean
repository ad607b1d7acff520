import Derived.Test.YtmlkhhhjdpbhfaaGreatDoorFo30
import Derived.Test.YtmlkhhhjdpbhfaaGreatDoorFo23
import Derived.Deep.QuietTactic
import Derived.ChangeSlices
import Derived.Test.YtmlkhhhjdpbhfaaGreatDoorFo04
import Derived.Test.YtmlkhhhjdpbhfaaGreatDoorFo29
import Derived.Laws.IdiomStrings
import Derived.Laws.Concat
namespace Go.Proofs.YtmlkhhhjdpbhfaaGreatDoor
open Go.RowKit
theorem bt_one (c:UInt8):bt ⟨#[c]⟩ 0=(c.toNat:Int):=by rw[bt_in _ _ (by simp[ByteArray.size])];rfl
theorem size_one (c:UInt8):(⟨#[c]⟩:ByteArray).size=1:=rfl
theorem bt_app0 (c:UInt8)(q:ByteArray):bt (⟨#[c]⟩++q) 0=(c.toNat:Int):=by rw[bt_app,if_pos (by rw[size_one];omega),bt_one]
theorem at_one {s q:ByteArray}{a:Nat}{c:UInt8}(h:TxA s a (⟨#[c]⟩++q)):bt s a=(c.toNat:Int):=by
 rw[← bt_one c];exact h.fst 0 (by rw[size_one];omega)
theorem at_two {s q:ByteArray}{a:Nat}{c:UInt8}(h:TxA s a (⟨#[c]⟩++q)):TxA s (a+1) q:=h.snd
def WdS (p:ByteArray):Prop:=p.size=1∧49≤bt p 0∧bt p 0≤52
def HxS (p:ByteArray):Prop:=p.size=2∧0≤hexV (bt p 0)∧0≤hexV (bt p 1)
def DpS (d:Nat)(p:ByteArray):Prop:=p.size=1∧bt p 0=97+d∧d<8
theorem partC_num (c:UInt8)(hc:c=110∨c=108)(wd:ByteArray)(hw:WdS wd):PtC (⟨#[c]⟩++wd):=by
 obtain ⟨w1,w2,w3⟩:=hw
 refine partC_leaf _ 2 (by rw[ByteArray.size_append,size_one,w1]) (by omega) (by rw[bt_app0];rcases hc with rfl | rfl<;>decide) (fun a=>{ c:=(c.toNat:Int),w:=bt wd 0-48,pl:=a }) (fun s a h=>?_) (fun a=>by rcases hc with rfl | rfl<;>simp[hidesB,usesB,inB])
 have h0:=at_one h
 have h1:bt s (a+1)=bt wd 0:=(at_two h).at0 (by omega)
 rcases hc with rfl | rfl
 · have h0:bt s a=110:=h0
   simp[headV,depHd,h0,h1,kAny,kW,kD,kIn,inB,w2,w3]
 · have h0:bt s a=108:=h0
   simp[headV,depHd,h0,h1,kAny,kW,kD,kIn,inB,w2,w3]
theorem partC_fix (hx:ByteArray)(hw:HxS hx):PtC (⟨#[39]⟩++hx):=by
 obtain ⟨w1,w2,w3⟩:=hw
 refine partC_leaf _ 3 (by rw[ByteArray.size_append,size_one,w1]) (by omega) (by rw[bt_app0];decide) (fun a=>{ c:=39,b:=16*hexV (bt hx 0)+hexV (bt hx 1),pl:=a }) (fun s a h=>?_) (fun a=>by simp[hidesB,usesB,inB])
 have h0:bt s a=39:=at_one h
 have h1:bt s (a+1)=bt hx 0:=(at_two h).at0 (by omega)
 have h2:bt s (a+2)=bt hx 1:=at_two h 1 (by omega)
 have k0:¬ hexV (bt hx 0)<0:=by omega
 have k1:¬ hexV (bt hx 1)<0:=by omega
 simp only[headV,h0,h1,h2,k0,k1,if_true,if_false]
 simp
theorem partC_rest:PtC ⟨#[46]⟩:=by
 refine partC_leaf _ 1 (size_one _) (by omega) (by rw[bt_one];decide) (fun a=>{ c:=46,pl:=a }) (fun s a h=>?_) (fun a=>by simp[hidesB,usesB,inB])
 have h0:bt s a=46:=by rw[h.at0 (by rw[size_one];omega),bt_one];rfl
 simp[headV,depHd,h0,kAny,kW,kD,kIn,inB]
theorem partC_rule (c:UInt8)(hc:c=66∨c=67):PtC ⟨#[c]⟩:=by
 refine partC_leaf _ 1 (size_one _) (by omega) (by rw[bt_one];rcases hc with rfl | rfl<;>decide) (fun a=>{ c:=82,r:=(c.toNat:Int)-65,pl:=a }) (fun s a h=>?_) (fun a=>?_)
 · have h0:bt s a=(c.toNat:Int):=by rw[h.at0 (by rw[size_one];omega),bt_one]
   rcases hc with rfl | rfl
   · have h0:bt s a=66:=h0
     simp[headV,h0]
   · have h0:bt s a=67:=h0
     simp[headV,h0]
 · rcases hc with rfl | rfl<;>simp[hidesB,usesB,inB]
theorem gi_cons {L L':Nat}{x:It}{its:List It}(g:GI L its)(hx:x.nx=1+its.length)(hL:L+1≤L')(hc:x.c≠82):GI L' (x::its):=
 ⟨segOk_cons _ _ hx,by have:=g.len;simp;omega,fun y hy=>by
  rcases List.mem_cons.1 hy with rfl | h
  · exact fun e=>absurd e hc
  · exact g.refs y h⟩
theorem partC_many (p:ByteArray)(hp:PtC p):PtC (⟨#[42]⟩++p):=by
 obtain ⟨p1,p2,p3⟩:=hp
 refine ⟨by rw[bt_app0];decide,by rw[ByteArray.size_append];omega,fun s rule a f ha hf=>?_⟩
 rw[ByteArray.size_append,size_one] at hf ⊢
 obtain ⟨g,rfl⟩:∃ g,f=g+1:=⟨f-1,by omega⟩
 obtain ⟨its,e,gi,w⟩:=p3 s rule (a+1) g (at_two ha) (by omega)
 have h0:bt s a=42:=at_one ha
 have hh:headV s a={ ok:=true,i:=a+1,inn:=1,it:={ c:=42,pl:=a } }:=by simp[headV,depHd,h0,kAny,kW,kD,kIn,inB]
 refine ⟨_,prs_one s rule g a _ its _ hh rfl rfl (by rw[e];congr 1;omega),gi_cons gi rfl (by omega) (by simp),fun F own ar q hF=>?_⟩
 obtain ⟨G,rfl⟩:∃ G,F=G+1:=⟨F-1,by simp at hF;omega⟩
 rw[walk_one G own ar _ its q (by simp) gi.seg,w _ _ _ _ (by simpa using hF),step_plain _ _ _ _ (by rfl) (by rfl)]
theorem partC_choice (p q:ByteArray)(hp:PtC p)(hq:PtC q):PtC (⟨#[47]⟩++p++q):=by
 obtain ⟨p1,p2,p3⟩:=hp
 obtain ⟨q1,q2,q3⟩:=hq
 refine ⟨by rw[bt_app,if_pos (by rw[ByteArray.size_append,size_one];omega),bt_app0];decide,by rw[ByteArray.size_append];omega,fun s rule a f ha hf=>?_⟩
 rw[ByteArray.size_append,ByteArray.size_append,size_one] at hf ⊢
 obtain ⟨g,rfl⟩:∃ g,f=g+1:=⟨f-1,by omega⟩
 obtain ⟨its,e,gi,w⟩:=p3 s rule (a+1) g (at_two ha.fst) (by omega)
 have ha2:=ha.snd
 rw[ByteArray.size_append,size_one] at ha2
 obtain ⟨its2,e2,gi2,w2⟩:=q3 s rule (a+(1+p.size)) g ha2 (by omega)
 have h0:bt s a=47:=at_one ha.fst
 have hh:headV s a={ ok:=true,i:=a+1,inn:=2,it:={ c:=47,pl:=a } }:=by simp[headV,depHd,h0,kAny,kW,kD,kIn,inB]
 refine ⟨_,prs_two s rule g a _ _ its its2 _ hh rfl rfl e (by rw[show a+1+p.size=a+(1+p.size) by omega,e2];congr 1;omega),⟨segOk_cons _ _ rfl,?_,fun x hx=>?_⟩,fun F own ar q hF=>?_⟩
 · have:=gi.len;have:=gi2.len;simp;omega
 · rcases List.mem_cons.1 hx with rfl | h
   · intro e;simp at e
   · rcases List.mem_append.1 h with h | h
     · exact gi.refs x h
     · exact gi2.refs x h
 · obtain ⟨G,rfl⟩:∃ G,F=G+1:=⟨F-1,by simp at hF;omega⟩
   rw[walk_two G own ar _ its its2 q (by simp) gi.seg gi2.seg,step_plain _ _ _ _ (by rfl) (by rfl),w _ _ _ _ (by simp at hF;omega),w2 _ _ _ _ (by simp at hF;omega)]
theorem endV_all (d:Nat)(sc:Sc)(st:Int × Bool)(h:Sc2 d d sc):endV sc st=st:=by
 have hs:∀ k,endStep sc st k=st:=fun k=>by
  unfold endStep
  cases hk:sc.hid k with
  | none=>rfl
  | some pl=>
   have h1:¬ d≤k:=fun e=>by have:=(h.1 k).2 e;rw[hk] at this;cases this
   simp only
   rw[h.2 k,if_pos (by simp;omega)]
 unfold endV
 induction (List.range 8) with
 | nil=>rfl
 | cons x l ih=>rw[List.foldl_cons,hs,ih]
theorem sc2_zero:Sc2 0 0 Sc0:=⟨fun k=>by simp[Sc0],fun k=>by simp[Sc0]⟩
theorem partC_struct (p:ByteArray)(d:Nat)(hp:SeqC 0 0 d d p)(h0:0<p.size):PtC (⟨#[40]⟩++p++⟨#[41]⟩):=by
 refine ⟨by rw[bt_app,if_pos (by rw[ByteArray.size_append,size_one];omega),bt_app0];decide,by rw[ByteArray.size_append];have:=size_one 41;omega,fun s rule a f ha hf=>?_⟩
 rw[ByteArray.size_append,ByteArray.size_append,size_one,size_one] at hf ⊢
 obtain ⟨g,rfl⟩:∃ g,f=g+1:=⟨f-1,by omega⟩
 obtain ⟨kids,k1,k2,k3,k4⟩:=hp s rule (a+1) g (at_two ha.fst) (by omega)
 have ha2:=ha.snd
 rw[ByteArray.size_append,size_one] at ha2
 have he:bt s (a+1+p.size)=41:=by rw[show a+1+p.size=a+(1+p.size) by omega,ha2.at0 (by rw[size_one];omega),bt_one];rfl
 have hc:bt s a=40:=at_one ha.fst
 have hh:headV s a={ ok:=true,i:=a+1,inn := -1,it:={ c:=40,pl:=a } }:=by simp[headV,depHd,hc,kAny,kW,kD,kIn,inB]
 have hne:kids≠[]:=by intro e;subst e;simp only[Kids] at k1;omega
 have hlen:=Kids.len kids k1
 have hseg:segs kids.flatten.length kids.flatten=kids:=segs_flat kids (fun s hs=>(k2 s hs).1) _ (Nat.le_refl _)
 refine ⟨{ c:=40,pl:=(a:Int),rl:=rule,nx:=1+kids.flatten.length }::kids.flatten,?_,⟨segOk_cons _ _ rfl,by rw[List.length_cons];omega,fun x hx=>?_⟩,fun F own ar q hF=>?_⟩
 · rw[prs,hh,if_pos rfl]
   unfold inner
   rw[if_pos (show (-1:Int)<0 by decide),loopB_kids s rule g kids g (a+1) (a+1+p.size) hne (by omega) k1 he]
   simp only
   congr 1
   omega
 · rcases List.mem_cons.1 hx with rfl | h
   · intro e;simp at e
   · obtain ⟨k,hk,hx⟩:=List.mem_flatten.1 h
     exact (k2 k hk).2 x hx
 · obtain ⟨G,rfl⟩:∃ G,F=G+1:=⟨F-1,by simp at hF;omega⟩
   obtain ⟨sc',e1,e2⟩:=k4 G Sc0 q.2 (fun k hk=>by
    have:=List.Sublist.length_le (List.sublist_flatten_of_mem hk)
    simp at hF;simp at this;omega) sc2_zero
   rw[walkV,if_pos rfl,hseg,e1]
   simp only
   rw[endV_all d sc' q.2 e2]
theorem use_step (d n:Nat)(hd:d<n)(x:It)(own:Bool)(sc:Sc)(st:Int × Bool)(hs:Sc2 d n sc)(h1:hidesB x.c=false)(h2:usesB x.c=true)(hx:x.d.toNat=d):
 ∃ sc',stepV own true x (sc,st)=(sc',st)∧Sc2 (d+1) n sc':=by
 have hn:sc.hid d≠none:=fun e=>by have:=(hs.1 d).1 e;omega
 have hu:sc.us d=false:=by rw[hs.2];simp
 refine ⟨⟨sc.hid,fun k=>if k=d then true else sc.us k⟩,?_,hs.1,fun k=>?_⟩
 · unfold stepV useV
   rw[h1,h2]
   simp only[Bool.false_eq_true,if_false,if_true,hx,hu]
   rw[if_pos]
   cases h:sc.hid d with
   | none=>exact absurd h hn
   | some v=>rfl
 · simp only[hs.2]
   by_cases e:k=d
   · simp[e]
   · simp only[if_neg e];congr 1;exact propext ⟨fun h=>by omega,fun h=>by omega⟩
theorem headC (c:UInt8)(hc:c=104∨c=107)(wd dp:ByteArray)(d:Nat)(hw:WdS wd)(hd:DpS d dp)(u:Nat):SeqC u d u (d+1) (⟨#[c]⟩++wd++dp):=by
 obtain ⟨w1,w2,w3⟩:=hw
 obtain ⟨d1,d2,d3⟩:=hd
 have hp:PtX (fun its=>∀ F sc st,its.length≤F→Sc2 u d sc→∃ sc',walkV F true true its (sc,st)=(sc',st)∧Sc2 u (d+1) sc') (⟨#[c]⟩++wd++dp):=by
  refine ⟨by rw[bt_app,if_pos (by rw[ByteArray.size_append,size_one];omega),bt_app0];rcases hc with rfl | rfl<;>decide,by rw[ByteArray.size_append];omega,fun s rule a f ha hf=>?_⟩
  rw[ByteArray.size_append,ByteArray.size_append,size_one,w1,d1] at hf ⊢
  obtain ⟨g,rfl⟩:∃ g,f=g+1:=⟨f-1,by omega⟩
  have h1:bt s (a+1)=bt wd 0:=(at_two ha.fst).at0 (by omega)
  have ha2:=ha.snd
  rw[ByteArray.size_append,size_one,w1] at ha2
  have h2:bt s (a+2)=97+d:=by rw[← d2];exact ha2.at0 (by omega)
  have g1:(97:Int)≤97+d:=by omega
  have g2:(97:Int)+d≤104:=by omega
  have hh:headV s a={ ok:=true,i:=a+3,it:={ c:=(c.toNat:Int),w:=bt wd 0-48,d:=d,pl:=((a+2:Nat):Int) } }:=by
   have h0:=at_one ha.fst
   rcases hc with rfl | rfl
   · have h0:bt s a=104:=h0
     simp[headV,depHd,h0,h1,h2,kAny,kW,kD,kIn,inB,w2,w3,g1,g2];omega
   · have h0:bt s a=107:=h0
     simp[headV,depHd,h0,h1,h2,kAny,kW,kD,kIn,inB,w2,w3,g1,g2];omega
  refine ⟨_,prs_leaf s rule g a _ hh rfl rfl,⟨segOk_one _ rfl,by simp,fun x hx=>?_⟩,fun F sc st hF hs=>?_⟩
  · simp only[List.mem_singleton] at hx;subst hx
    rcases hc with rfl | rfl<;>(intro e;simp at e)
  · have hn:sc.hid d=none:=(hs.1 d).2 (Nat.le_refl _)
    refine ⟨⟨fun k=>if k=d then some ((a+2:Nat):Int) else sc.hid k,sc.us⟩,?_,fun k=>?_,hs.2⟩
    · rw[walk_leaf F true true _ _ (by rcases hc with rfl | rfl<;>simp) (by simpa using hF)]
      unfold stepV hideV
      have hb:hidesB (c.toNat:Int)=true:=by rcases hc with rfl | rfl<;>rfl
      simp[hb,hn]
    · simp only
      by_cases e:k=d
      · simp[e]
      · rw[if_neg e,hs.1 k];omega
 exact PtX.seq hp fun _ w F sc st hF hs=>w F sc st hF hs
theorem useC_run (dp:ByteArray)(d:Nat)(hd:DpS d dp):UseC d (d+1) (⟨#[114]⟩++dp):=by
 obtain ⟨d1,d2,d3⟩:=hd
 refine ⟨by rw[bt_app0];decide,by rw[ByteArray.size_append];omega,fun s rule a f ha hf=>?_⟩
 rw[ByteArray.size_append,size_one,d1] at hf ⊢
 obtain ⟨g,rfl⟩:∃ g,f=g+1:=⟨f-1,by omega⟩
 have h0:bt s a=114:=at_one ha
 have h2:bt s (a+1)=97+d:=by rw[← d2];exact (at_two ha).at0 (by omega)
 have g1:(97:Int)≤97+d:=by omega
 have g2:(97:Int)+d≤104:=by omega
 have hh:headV s a={ ok:=true,i:=a+2,it:={ c:=114,d:=d,pl:=((a+1:Nat):Int) } }:=by
  simp[headV,depHd,h0,h2,kAny,kW,kD,kIn,inB,g1,g2];omega
 refine ⟨_,prs_leaf s rule g a _ hh rfl rfl,⟨segOk_one _ rfl,by simp,fun x hx=>?_⟩,fun F own sc st hF hs=>?_⟩
 · simp only[List.mem_singleton] at hx;subst hx;intro e;simp at e
 · rw[walk_leaf F own true _ _ (by simp) (by simpa using hF)]
   exact use_step d (d+1) (by omega) _ own sc st hs (by rfl) (by rfl) (by simp)
theorem useC_on (c:UInt8)(hc:c=116∨c=119∨c=64∨c=115)(dp p:ByteArray)(d n:Nat)(hd:DpS d dp)(hdn:d<n)(Wk:List It→Prop)(hp:PtX Wk p)(hw:∀ its,Wk its→∀ F sc st,its.length≤F→Sc2 (d+1) n sc→∃ sc',walkV F false (inB [119,64,115] (c.toNat:Int)) its (sc,st)=(sc',st)∧Sc2 n n sc'):UseC d n (⟨#[c]⟩++dp++p):=by
 obtain ⟨d1,d2,d3⟩:=hd
 obtain ⟨p1,p2,p3⟩:=hp
 refine ⟨by rw[bt_app,if_pos (by rw[ByteArray.size_append,size_one];omega),bt_app0];rcases hc with rfl | rfl | rfl | rfl<;>decide,by rw[ByteArray.size_append];omega,fun s rule a f ha hf=>?_⟩
 rw[ByteArray.size_append,ByteArray.size_append,size_one,d1] at hf ⊢
 obtain ⟨g,rfl⟩:∃ g,f=g+1:=⟨f-1,by omega⟩
 have h0:=at_one ha.fst
 have h2:bt s (a+1)=97+d:=by rw[← d2];exact (at_two ha.fst).at0 (by omega)
 have ha2:=ha.snd
 rw[ByteArray.size_append,size_one,d1] at ha2
 obtain ⟨its,e,gi,w⟩:=p3 s rule (a+2) g ha2 (by omega)
 have g1:(97:Int)≤97+d:=by omega
 have g2:(97:Int)+d≤104:=by omega
 have hh:headV s a={ ok:=true,i:=a+2,inn:=1,it:={ c:=(c.toNat:Int),d:=d,pl:=((a+1:Nat):Int) } }:=by
  rcases hc with rfl | rfl | rfl | rfl
  · have h0:bt s a=116:=h0
    simp[headV,depHd,h0,h2,kAny,kW,kD,kIn,inB,g1,g2];omega
  · have h0:bt s a=119:=h0
    simp[headV,depHd,h0,h2,kAny,kW,kD,kIn,inB,g1,g2];omega
  · have h0:bt s a=64:=h0
    simp[headV,depHd,h0,h2,kAny,kW,kD,kIn,inB,g1,g2];omega
  · have h0:bt s a=115:=h0
    simp[headV,depHd,h0,h2,kAny,kW,kD,kIn,inB,g1,g2];omega
 refine ⟨_,prs_one s rule g a _ its _ hh rfl rfl (by rw[e];congr 1;omega),gi_cons gi rfl (by omega) (by rcases hc with rfl | rfl | rfl | rfl<;>simp),fun F own sc st hF hs=>?_⟩
 obtain ⟨G,rfl⟩:∃ G,F=G+1:=⟨F-1,by simp at hF;omega⟩
 rw[walk_one G own true _ its _ (by rcases hc with rfl | rfl | rfl | rfl<;>simp) gi.seg]
 obtain ⟨sc1,e1,s1⟩:=use_step d n hdn { c:=(c.toNat:Int),d:=d,pl:=((a+1:Nat):Int),rl:=rule,nx:=1+its.length } own sc st hs (by rcases hc with rfl | rfl | rfl | rfl<;>rfl) (by rcases hc with rfl | rfl | rfl | rfl<;>rfl) (by simp)
 rw[e1,Bool.true_and]
 exact hw its w G sc1 st (by simpa using hF) s1
theorem useC_part (c:UInt8)(hc:c=116∨c=119∨c=64∨c=115)(dp p:ByteArray)(d:Nat)(hd:DpS d dp)(hp:PtC p):UseC d (d+1) (⟨#[c]⟩++dp++p):=
 useC_on c hc dp p d (d+1) hd (by omega) Clo hp fun its w F sc st hF hs=>⟨sc,w F false _ (sc,st) hF,hs⟩
theorem useC_more (c:UInt8)(hc:c=119∨c=115)(dp p:ByteArray)(d n:Nat)(hd:DpS d dp)(hn:d+1<n)(hp:UseC (d+1) n p):UseC d n (⟨#[c]⟩++dp++p):=
 useC_on c (by rcases hc with rfl | rfl<;>simp) dp p d n hd (by omega) _ hp fun its w F sc st hF hs=>by
  have:inB [119,64,115] (c.toNat:Int)=true:=by rcases hc with rfl | rfl<;>rfl
  rw[this]
  exact w F false sc st hF hs
def ruleA:ByteArray:=⟨#[65,61]⟩
def ruleB:ByteArray:=⟨#[59,66,61]⟩
def ruleC:ByteArray:=⟨#[59,67,61]⟩
def madeG (p1 p2 p3:ByteArray):ByteArray:=ruleA++p1++ruleB++p2++ruleC++p3
def RowN (w:World)(mb:Nat)(v:Value)(l:List Int):Prop:=
 (∀ x,x∈l → -9223372036854775808≤x∧x≤9223372036854775807)∧l.length≤9223372036854775807∧
 ∃ o cap,v=.slice o l.length cap∧∀ i (h:i<l.length),∃ g k,o=some ⟨g,k,none⟩∧g<mb∧w.cell? ⟨g,k+i,none⟩=some (.int .i64 l[i])
structure Mkr (w:World) (mb:Nat) (v:Value) (l:List Int):Prop where
 blk:∃ k:Nat,k≤l.length∧Blk w mb #[v,.int .i64 k] 49
 row:RowN w mb v l
theorem RowN.heap {w w':World}{mb:Nat}{v:Value}{l:List Int}(h:RowN w mb v l)(hk:∀ k,k<mb→w'.heap[k]? = w.heap[k]?):RowN w' mb v l:=by
 obtain ⟨h1,h2,o,cap,h3,h4⟩:=h
 refine ⟨h1,h2,o,cap,h3,fun i hi=>?_⟩
 obtain ⟨g,k,e,hg,hc⟩:=h4 i hi
 refine ⟨g,k,e,hg,?_⟩
 rw[← hc]
 unfold World.cell?
 simp only[hk g hg]
theorem Mkr.lt {w:World}{mb:Nat}{v:Value}{l:List Int}(h:Mkr w mb v l):mb<w.heap.size:=by obtain ⟨k,_,hb⟩:=h.blk;exact hb.lt
set_option maxHeartbeats 400000 in
theorem pickN_calls (c n:Int)(h1 : -9223372036854775808≤c)(h2:c≤9223372036854775807)(hn:0<n)(hn2:n≤4294967296)(w:World):
 Calls Tryz.prog 13 #[.int .i64 c,.int .i64 n] w fun e w'=>∃ k:Nat,(k:Int)<n∧e=.returned (.int .i64 k)∧w'=w:=by
 have key:∀ d:Int,0≤d→∃ k:Nat,(k:Int)<n∧d.tmod n=k:=fun d hd=>by
  refine ⟨(d.tmod n).toNat,?_,?_⟩
  · have:=Int.tmod_lt_of_pos d hn
    have h0:=Int.tmod_nonneg n hd
    omega
  · have h0:=Int.tmod_nonneg n hd
    omega
 have HKey:=hide' key
 clear key
 have hn0:(n==0)=false:=by simp;omega
 by_cases hc:c<0
 · obtain ⟨k,hk,hke⟩:=HKey.out (-(c+1)) (by omega)
   have HK:=hide' hk
   go_enter Tryz.func13,Tryz.ntmps13
   go_wp2_with fail
   go_ret
   exact ⟨k,HK.out,rfl,rfl⟩
 · obtain ⟨k,hk,hke⟩:=HKey.out c (by omega)
   have HK:=hide' hk
   go_enter Tryz.func13,Tryz.ntmps13
   go_wp2_with fail
   go_ret
   exact ⟨k,HK.out,rfl,rfl⟩
def MkPost (w:World)(mb:Nat)(v:Value)(l:List Int)(w':World):Prop:=Mkr w' mb v l∧Fr w.heap.size mb w w'
theorem MkPost.trans {a b c:World}{mb:Nat}{v:Value}{l:List Int}(h:MkPost a mb v l b)(k:MkPost b mb v l c):MkPost a mb v l c:=
 ⟨k.1,⟨k.2.os.trans h.2.os,k.2.tape.trans h.2.tape,k.2.output.trans h.2.output,Nat.le_trans h.2.size k.2.size,fun i hi hn=>(k.2.block i (by have:=h.2.size;omega) hn).trans (h.2.block i hi hn)⟩⟩
theorem MkPost.refl {w:World}{mb:Nat}{v:Value}{l:List Int}(h:Mkr w mb v l):MkPost w mb v l w:=⟨h,Fr.refl _ _ _⟩
theorem MkPost.drew {a b:World}{mb:Nat}{v:Value}{l:List Int}(h:MkPost a mb v l b)(n:Nat):MkPost a mb v l { b with drawn:=b.drawn+n }:=
 ⟨⟨h.1.blk,h.1.row⟩,⟨h.2.os,h.2.tape,h.2.output,h.2.size,h.2.block⟩⟩
set_option maxRecDepth 100000 in
set_option maxHeartbeats 1000000 in
theorem next_calls (w:World)(mb:Nat)(v:Value)(l:List Int)(h:Mkr w mb v l)(n:Int)(hn:0<n)(hn2:n≤4294967296):
 Calls Tryz.prog 33 #[.pointer (some ⟨mb,0,none⟩),.int .i64 n] w fun e w'=>(∃ k:Nat,(k:Int)<n∧e=.returned (.int .i64 k))∧MkPost w mb v l w':=by
 have HM:=hide' h
 obtain ⟨⟨at',hat,hb⟩,hr,hll,o,cap,rfl,hc⟩:=h
 have HB:=hide' hb
 have c0:w.cell? ⟨mb,0,none⟩=some (.slice o l.length cap):=hb.cell 0
 have c1:w.cell? ⟨mb,1,none⟩=some (.int .i64 at'):=hb.cell 1
 have cf:∀ j,w.frozen? ⟨mb,j,none⟩=false:=fun j=>hb.frozen j
 by_cases hlt:at'<l.length
 · have hlt':(at':Int)<(l.length:Int):=by omega
   obtain ⟨g,k,rfl,hg,hcell⟩:=hc at' hlt
   have hx:=hr _ (List.getElem_mem hlt)
   have hne:g≠mb:=by omega
   have hset:∀ i,i≠mb→(w.setCell ⟨mb,1,none⟩ (.int .i64 ((at':Int)+1))).heap[i]? = w.heap[i]? := fun i hi=>Below.heap_setCell _ _ _ _ hi
   have HB2:=hide' (Blk.set hb 1 (.int .i64 ((at'+1:Nat):Int)))
   have d0:(w.setCell ⟨mb,1,none⟩ (.int .i64 ((at':Int)+1))).cell? ⟨mb,0,none⟩=some (.slice (some ⟨g,k,none⟩) l.length cap):=(Blk.set hb 1 _).cell 0
   have d1:(w.setCell ⟨mb,1,none⟩ (.int .i64 ((at':Int)+1))).cell? ⟨mb,1,none⟩=some (.int .i64 ((at':Int)+1)):=(Blk.set hb 1 _).cell 1
   have d2:(w.setCell ⟨mb,1,none⟩ (.int .i64 ((at':Int)+1))).cell? ⟨g,k+at',none⟩=some (.int .i64 l[at']):=by
    rw[← hcell];unfold World.cell?;simp only[hset g hne]
   have HP:Hid (MkPost w mb (.slice (some ⟨g,k,none⟩) l.length cap) l (w.setCell ⟨mb,1,none⟩ (.int .i64 ((at':Int)+1)))):=by
    have h:MkPost w mb (.slice (some ⟨g,k,none⟩) l.length cap) l (w.setCell ⟨mb,1,none⟩ (.int .i64 ((at':Int)+1))):=
     ⟨⟨⟨at'+1,by omega,by have:=HB2.out;simpa using this⟩,HM.out.row.heap fun i hi=>hset i (by omega)⟩,Fr.setCell (p:=⟨mb,1,none⟩) (Fr.refl _ _ _) (Or.inl rfl) _⟩
    exact h
   have HX1:=hide' hx.1
   have HX2:=hide' hx.2
   clear hr hc hcell hb hx HB2 hset
   generalize l[at']=xv at *
   go_enter Tryz.func33,Tryz.ntmps33
   go_wp2_with fail
   go_quiet (fail)
   go_wp2_with fail
   have e0:((w.drewN nq).setCell ⟨mb,1,none⟩ (.int .i64 ((at':Int)+1))).cell? ⟨mb,0,none⟩=some (.slice (some ⟨g,k,none⟩) l.length cap):=d0
   have e1:((w.drewN nq).setCell ⟨mb,1,none⟩ (.int .i64 ((at':Int)+1))).cell? ⟨mb,1,none⟩=some (.int .i64 ((at':Int)+1)):=d1
   have e2:((w.drewN nq).setCell ⟨mb,1,none⟩ (.int .i64 ((at':Int)+1))).cell? ⟨g,k+at',none⟩=some (.int .i64 xv):=d2
   have HP2:Hid (MkPost w mb (.slice (some ⟨g,k,none⟩) l.length cap) l ((w.drewN nq).setCell ⟨mb,1,none⟩ (.int .i64 ((at':Int)+1)))):=HP.out.drew nq
   clear d0 d1 d2 HP
   generalize (w.drewN nq).setCell ⟨mb,1,none⟩ (.int .i64 ((at':Int)+1))=w2 at *
   refine wp_region_seg (fun W=>W.cell? ⟨mb,0,none⟩=some (.slice (some ⟨g,k,none⟩) l.length cap)∧W.cell? ⟨mb,1,none⟩=some (.int .i64 ((at':Int)+1))∧W.cell? ⟨g,k+at',none⟩=some (.int .i64 xv)) [([0,1,2,3,4,5,6,7,8,9,10,11],12),([],13)] rfl (by kernel_rfl) (fun _ _ d _ _ h=>by cases d<;>exact h) ⟨e0,e1,e2⟩ ?_
   simp only[wpSeg,List.filterMap_cons,List.filterMap_nil,List.getElem?_toArray,List.getElem?_cons_zero,List.getElem?_cons_succ]
   refine wpX_step _ rfl (fun W hW=>rfl) ?_
   refine wpX_step (.pointer (some ⟨mb,0,none⟩)) rfl (fun W hW=>by go_simp) ?_
   refine wpX_step (.pointer (some ⟨mb,0,none⟩)) rfl (fun W hW=>by go_simp) ?_
   refine wpX_step (.slice (some ⟨g,k,none⟩) l.length cap) rfl (fun W hW=>by obtain ⟨h0,h1,h2⟩:=hW;go_simp) ?_
   refine wpX_step _ rfl (fun W hW=>rfl) ?_
   refine wpX_step (.pointer (some ⟨mb,0,none⟩)) rfl (fun W hW=>by go_simp) ?_
   refine wpX_step (.pointer (some ⟨mb,1,none⟩)) rfl (fun W hW=>by go_simp) ?_
   refine wpX_step (.int .i64 ((at':Int)+1)) rfl (fun W hW=>by obtain ⟨h0,h1,h2⟩:=hW;go_simp) ?_
   refine wpX_step (.int .i64 at') rfl (fun W hW=>by go_simp;rw[IntKind.wrap_i64];omega) ?_
   refine wpX_step (.pointer (some ⟨g,k+at',none⟩)) rfl (fun W hW=>by go_simp) ?_
   refine wpX_step (.int .i64 xv) rfl (fun W hW=>by obtain ⟨h0,h1,h2⟩:=hW;go_simp) ?_
   refine wpX_step _ rfl (fun W hW=>rfl) ?_
   refine wpX_nil ⟨_,rfl,rfl,?_⟩
   unfold Oper.wp
   go_simp
   refine (pickN_calls xv n HX1.out HX2.out hn hn2 _).mono ?_
   rintro e w' ⟨k2,hk2,rfl,rfl⟩
   refine ⟨⟨e0,e1,e2⟩,?_⟩
   refine wpX_nil ⟨_,rfl,rfl,?_⟩
   unfold Oper.wp
   go_simp
   try refine ⟨⟨e0,e1,e2⟩,?_⟩
   go_wp2_with fail
   go_ret
   exact ⟨⟨k2,hk2,rfl⟩,HP2.out.drew _⟩
 · have hlt':¬ (at':Int)<(l.length:Int):=by omega
   have hge:(l.length:Int)≤(at':Int):=by omega
   clear hr hc hb
   go_enter Tryz.func33,Tryz.ntmps33
   go_wp2_with fail
   go_quiet (fail)
   go_wp2_with fail
   go_ret
   exact ⟨⟨0,hn,rfl⟩,(MkPost.refl HM.out).drew _⟩
end Go.Proofs.YtmlkhhhjdpbhfaaGreatDoor
namespace Go.Proofs.YtmlkhhhjdpbhfaaGreatDoor
open Go.ChangeShapes Go.WideShapes Go.ChangeAt Go.WideMaps Go.WideElems Go.RowKit
theorem keep_laidOut:laidOutB Tryz.prog=true:=by kernel_rfl
theorem wf64 {a:Int}(h:(Lit.int .i64 a).wf=true) : -9223372036854775808≤a∧a≤9223372036854775807:=by
 unfold Lit.wf at h
 rw[Bool.and_eq_true] at h
 have h1:=of_decide_eq_true h.1
 have h2:=of_decide_eq_true h.2
 rw[show IntKind.i64.min = -9223372036854775808 from rfl] at h1
 rw[show IntKind.i64.max=9223372036854775807 from rfl] at h2
 exact ⟨h1,h2⟩
theorem cell_lt {W:World}{x:Addr}{v:Value}(h:W.cell? x=some v):x.block<W.heap.size:=by
 unfold World.cell? at h
 by_cases hz:x.block<W.heap.size
 · exact hz
 · rw[Array.getElem?_eq_none (by omega)] at h
   cases h
theorem open_nums {H:Type}{enc:TypeId × Value→H}{W:World}{v:Value}{d:DataW H}{p:List MemPlace}(hs:∃ a n c,v=.slice a n c)(h:DataW.Trod enc Tryz.prog W 0 (fun _=>true) true 24 v d p):
 ∃ l,RowN W W.heap.size v l∧∀ x∈p,x.block<W.heap.size:=by
 have hlt:∀ x∈p,x.block<W.heap.size:=by obtain ⟨m,hm⟩:=h;exact DataW.trod_lt m _ _ _ hm
 obtain ⟨a,n,c,rfl⟩:=hs
 obtain ⟨fuel,hf⟩:=h
 rcases open_ints Tryz.underlying24 Tryz.underlying3 (by kernel_rfl) hf with ⟨hcs,hx⟩ | ⟨x,len,cap,zs,hcs,_,hl,hm,hzs,hx,hcell,hwf⟩
 · simp[Value.cells] at hcs
   obtain ⟨rfl,rfl,rfl⟩:=hcs
   exact ⟨[],⟨by simp,by simp,none,0,rfl,fun i hi=>by simp at hi⟩,hlt⟩
 · simp[Value.cells] at hcs
   obtain ⟨rfl,rfl,rfl⟩:=hcs
   simp only[if_true] at hzs
   have hll:(zs.take n).length=n:=by rw[List.length_take];omega
   refine ⟨zs.take n,⟨fun y hy=>wf64 (hwf y (List.mem_of_mem_take hy)),by rw[hll];unfold maxLen at hm;omega,some x,c,by rw[hll],fun i hi=>?_⟩,hlt⟩
   rw[hll] at hi
   have hc0:=hcell 0 (by omega)
   have hspot:x.spot=none:=by
    have:x.add 0=x:=by simp[Addr.add]
    rw[this] at hc0
    unfold World.cell? at hc0
    split at hc0
    · split at hc0
      · cases hc0
      · rename_i h;simpa using h
    · cases hc0
   have hb:=cell_lt hc0
   obtain ⟨g,o,sp⟩:=x
   simp only at hspot
   subst hspot
   have hci:=hcell i (by omega)
   have hadd:(⟨g,o,none⟩:Addr).add i=⟨g,o+i,none⟩:=by unfold Addr.add;split<;>simp_all
   rw[hadd] at hci
   refine ⟨g,o,rfl,by simpa[Addr.add] using hb,?_⟩
   rw[hci]
   have hg:zs.getD i 0=(zs.take n)[i]'(by rw[hll];exact hi):=by
    rw[List.getElem_take,List.getD_eq_getElem?_getD,List.getElem?_eq_getElem (by omega)]
    rfl
   rw[hg]
end Go.Proofs.YtmlkhhhjdpbhfaaGreatDoor
namespace Go.Proofs.YtmlkhhhjdpbhfaaGreatDoor
open Go.RowKit
theorem mk_app (a b:List UInt8):(⟨a.toArray⟩:ByteArray)++⟨b.toArray⟩=⟨(a++b).toArray⟩:=by
 rw[ByteArray.mk_append_mk]
theorem mk_size (a:List UInt8):(⟨a.toArray⟩:ByteArray).size=a.length:=by simp[ByteArray.size]
theorem dec10 (k:Nat)(h:k<10):({ data:=#[48,49,50,51,52,53,54,55,56,57] }:ByteArray).extract k (k+1)=⟨[UInt8.ofNat (48+k)].toArray⟩:=by
 have h10:k=0∨k=1∨k=2∨k=3∨k=4∨k=5∨k=6∨k=7∨k=8∨k=9:=by omega
 rcases h10 with rfl | rfl | rfl | rfl | rfl | rfl | rfl | rfl | rfl | rfl<;>rfl
theorem hex16 (k:Nat)(h:k<16):({ data:=#[48,49,50,51,52,53,54,55,56,57,97,98,99,100,101,102] }:ByteArray).extract k (k+1)=⟨[hexT k].toArray⟩:=by
 have h16:k=0∨k=1∨k=2∨k=3∨k=4∨k=5∨k=6∨k=7∨k=8∨k=9∨k=10∨k=11∨k=12∨k=13∨k=14∨k=15:=by omega
 rcases h16 with rfl | rfl | rfl | rfl | rfl | rfl | rfl | rfl | rfl | rfl | rfl | rfl | rfl | rfl | rfl | rfl<;>rfl
theorem nDig_le (n:Nat):(decT n).length≤n+1:=by
 unfold decT
 rw[Lib.decDigits_length]
 induction n using Nat.strongRecOn with
 | _ n ih=>
  by_cases h:n<10
  · rw[Lib.nDigits_small h];omega
  · rw[Lib.nDigits_big h]
    have:=ih (n / 10) (by omega)
    omega
def decR (m:Nat):List UInt8:=if m=0 then [] else decT m
theorem decT_step (n:Nat):decT n=decR (n / 10)++[UInt8.ofNat (48+n % 10)]:=by
 unfold decT decR
 rw[Lib.decDigits]
 by_cases h:n<10
 · rw[dif_pos h,if_pos (by omega),show n % 10=n by omega];rfl
 · rw[dif_neg h,if_neg (by omega)];rfl
theorem decR_step (n:Nat)(h:n≠0):decR n=decR (n / 10)++[UInt8.ofNat (48+n % 10)]:=by
 rw[show decR n=decT n by unfold decR;rw[if_neg h]];exact decT_step n
set_option maxHeartbeats 1000000 in
theorem kdecimal_calls (n:Nat)(hn:n<4294967296)(w:World):
 Calls Tryz.prog 21 #[.int .i64 n] w fun e w'=>e=.returned (.string ⟨(decT n).toArray⟩)∧∃ m,w'=w.drewN m:=by
 have hx:=dec10 (n % 10) (by omega)
 have HD:=hide (decT_step n)
 go_enter Tryz.func21,Tryz.ntmps21
 go_wp2_with fail
 rw[hx]
 clear hx
 have HN:=hide (nDig_le n)
 go_loopw [0,4] (fun v0 v4 wr=>∃ (m:Nat) (t:List UInt8),v0=.int .i64 m∧v4=.string ⟨t.toArray⟩∧m≤4294967296∧Hid (decT n=decR m++t)∧wr=w) (fun v0 _ _=>(intOf v0).toNat)
 case atStart=>exact ⟨n / 10,[UInt8.ofNat (48+n % 10)],by go_num,rfl,by omega,HD,rfl⟩
 case round=>
  obtain ⟨m,t,rfl,rfl,hm,ht,rfl⟩:=hrel
  have hlt:t.length≤4294967297:=by
   have h1:=congrArg List.length ht.out
   rw[List.length_append] at h1
   have h2:=HN.out
   omega
  by_cases h0:m=0
  · subst h0
    go_wp2_with fail
    go_ret
    refine ⟨?_,0,rfl⟩
    rw[ht.out];rfl
  · have hx:=dec10 (m % 10) (by omega)
    have hpos:(0:Int)<(m:Int):=by omega
    have HT:Hid (decT n=decR (m / 10)++(UInt8.ofNat (48+m % 10)::t)):=by
     have:decT n=decR (m / 10)++(UInt8.ofNat (48+m % 10)::t):=by rw[ht.out,decR_step m h0];simp
     exact this
    have hs:(⟨t.toArray⟩:ByteArray).size≤4294967297:=by rw[mk_size];exact hlt
    have HA:Hid ((⟨[UInt8.ofNat (48+m % 10)].toArray⟩:ByteArray)++⟨t.toArray⟩=⟨(UInt8.ofNat (48+m % 10)::t).toArray⟩):=mk_app _ _
    clear ht h0 hlt
    generalize hTB:(⟨t.toArray⟩:ByteArray)=TB at *
    clear hTB
    generalize hu:UInt8.ofNat (48+m % 10)=u at *
    clear hu
    go_wp2_with fail
    exact ⟨⟨m / 10,u::t,by go_num,by rw[HA.out],by omega,HT,trivial⟩,by simp[intOf];omega⟩
theorem width_ok (k:Nat)(h:k<4):WdS ⟨(decT (1+k)).toArray⟩:=by
 have h4:k=0∨k=1∨k=2∨k=3:=by omega
 have e:∀ m,m<10→decT m=[UInt8.ofNat (48+m)]:=fun m hm=>by rw[decT_step,show m / 10=0 by omega,show m % 10=m by omega];rfl
 rw[e _ (by omega)]
 rcases h4 with rfl | rfl | rfl | rfl<;>exact ⟨rfl,by decide,by decide⟩
set_option maxHeartbeats 400000 in
theorem kwidth_calls (w:World)(mb:Nat)(v:Value)(l:List Int)(h:Mkr w mb v l):
 Calls Tryz.prog 34 #[.pointer (some ⟨mb,0,none⟩)] w fun e w'=>(∃ wd,WdS wd∧e=.returned (.string wd))∧MkPost w mb v l w':=by
 have HM:=hide' h
 clear h
 go_enter Tryz.func34,Tryz.ntmps34
 go_wp2_with fail
 refine (next_calls w mb v l HM.out 4 (by omega) (by omega)).mono ?_
 rintro e w1 ⟨⟨k,hk,rfl⟩,hp⟩
 have HP:=hide' hp
 have hk4:k<4:=by omega
 have HW:=hide' (width_ok k hk4)
 have hc:=kdecimal_calls (1+k) (by omega) w1
 rw[show ((1+k:Nat):Int)=1+(k:Int) by omega] at hc
 clear hp
 simp only
 go_wp2_with fail
 refine hc.mono ?_
 rintro e w2 ⟨rfl,m,rfl⟩
 simp only
 go_wp2_with fail
 go_ret
 exact ⟨⟨_,HW.out,rfl⟩,HP.out.drew _⟩
theorem hexT_ok (k:Nat)(h:k<16):0≤hexV ((hexT k).toNat:Int):=by
 have h16:k=0∨k=1∨k=2∨k=3∨k=4∨k=5∨k=6∨k=7∨k=8∨k=9∨k=10∨k=11∨k=12∨k=13∨k=14∨k=15:=by omega
 rcases h16 with rfl | rfl | rfl | rfl | rfl | rfl | rfl | rfl | rfl | rfl | rfl | rfl | rfl | rfl | rfl | rfl<;>decide
theorem hx_ok (i j:Nat)(hi:i<16)(hj:j<16):HxS (⟨[hexT i].toArray⟩++⟨[hexT j].toArray⟩):=by
 refine ⟨rfl,?_,?_⟩
 · rw[bt_app,if_pos (by exact Nat.zero_lt_one),show bt ⟨[hexT i].toArray⟩ 0=((hexT i).toNat:Int) from bt_one _];exact hexT_ok i hi
 · rw[bt_app,if_neg (by exact Nat.lt_irrefl 1),show bt (⟨[hexT j].toArray⟩:ByteArray) (1-(⟨[hexT i].toArray⟩:ByteArray).size)=((hexT j).toNat:Int) from bt_one _];exact hexT_ok j hj
set_option maxHeartbeats 400000 in
theorem khex_calls (n:Nat)(hn:n<256)(w:World):
 Calls Tryz.prog 35 #[.int .i64 n] w fun e w'=>(∃ hx,HxS hx∧e=.returned (.string hx))∧∃ m,w'=w.drewN m:=by
 have hx1:=hex16 (n / 16) (by omega)
 have hx2:=hex16 (n % 16) (by omega)
 have HH:=hide' (hx_ok (n / 16) (n % 16) (by omega) (by omega))
 go_enter Tryz.func35,Tryz.ntmps35
 go_wp2_with fail
 go_quiet (fail)
 go_wp2_with fail
 go_ret
 exact ⟨⟨_,HH.out,rfl⟩,_,rfl⟩
theorem dep8 (k:Nat)(h:k<8):DpS k (({ data:=#[97,98,99,100,101,102,103,104] }:ByteArray).extract k (k+1)):=by
 have h8:k=0∨k=1∨k=2∨k=3∨k=4∨k=5∨k=6∨k=7:=by omega
 rcases h8 with rfl | rfl | rfl | rfl | rfl | rfl | rfl | rfl<;>exact ⟨rfl,rfl,by omega⟩
set_option maxHeartbeats 400000 in
theorem dep_calls (d:Nat)(hd:d<8)(w:World):
 Calls Tryz.prog 57 #[.int .i64 d] w fun e w'=>(∃ dp,DpS d dp∧e=.returned (.string dp))∧w'=w:=by
 have HD:=hide' (dep8 d hd)
 go_enter Tryz.func57,Tryz.ntmps57
 go_wp2_with fail
 go_ret
 exact ⟨⟨_,HD.out,rfl⟩,rfl⟩
end Go.Proofs.YtmlkhhhjdpbhfaaGreatDoor

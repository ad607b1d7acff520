import Derived.Test.YtmlkhhhjdpbhfaaGreatDoorFo06
namespace Go.Proofs.YtmlkhhhjdpbhfaaGreatDoor
open Go.RowKit
def pt0 (j:Nat)(c:Int)(a:Nat):Pt:={ k:=j,pl:=a,ru:=if j=6 then c-65 else 0 }
def Match (s:ByteArray)(a j:Nat):Prop:=
 (headV s a).ok=(tailH (sh j) s (a+1) (pt0 j (bt s a) a)).ok∧(headV s a).i=(tailH (sh j) s (a+1) (pt0 j (bt s a) a)).i∧
   ((headV s a).ok=true→(headV s a).inn=(sh j).n∧ItPt (headV s a).it (tailH (sh j) s (a+1) (pt0 j (bt s a) a)).p)
theorem match_rule (s:ByteArray)(a:Nat)(h:65≤bt s a∧bt s a≤72):Match s a 6:=by
 have e:headV s a={ ok:=true,i:=a+1,it:={ c:=82,r:=bt s a-65,pl:=a } }:=by unfold headV;rw[if_pos h]
 have t:tailH (sh 6) s (a+1) (pt0 6 (bt s a) a)=⟨true,a+1,pt0 6 (bt s a) a⟩:=by simp[tailH,tailW,tailD,tailX,sh,shapesL]
 unfold Match
 rw[e,t]
 exact ⟨rfl,rfl,fun _=>⟨rfl,⟨rfl,rfl,rfl,fun _=>⟨rfl,rfl⟩,fun h=>absurd (show kD 82=true from h) (by decide)⟩⟩⟩
theorem match_fix (s:ByteArray)(a:Nat)(h:bt s a=39):Match s a 2:=by
 unfold Match
 by_cases h1:hexV (bt s (a+1))<0
 · have e:headV s a={ ok:=false,i:=a+1 }:=by simp[headV,h,h1]
   have t:tailH (sh 2) s (a+1) (pt0 2 (bt s a) a)=⟨false,a+1,{ pt0 2 (bt s a) a with vl:=hexV (bt s (a+1))*16+hexV (bt s (a+1+1)) }⟩:=by
    have:hexOk s (a+1)=false:=by unfold hexOk;simp;omega
    simp[tailH,tailW,tailD,tailX,sh,shapesL,valOk,valN,this]
   rw[e,t];exact ⟨rfl,rfl,fun h=>by cases h⟩
 · have o1:hexOk s (a+1)=true:=by unfold hexOk;simp;omega
   by_cases h2:hexV (bt s (a+2))<0
   · have e:headV s a={ ok:=false,i:=a+2 }:=by simp[headV,h,h1,h2]
     have t:tailH (sh 2) s (a+1) (pt0 2 (bt s a) a)=⟨false,a+2,{ pt0 2 (bt s a) a with vl:=hexV (bt s (a+1))*16+hexV (bt s (a+1+1)) }⟩:=by
      have o2:hexOk s (a+1+1)=false:=by unfold hexOk;rw[show a+1+1=a+2 by omega];simp;omega
      simp[tailH,tailW,tailD,tailX,sh,shapesL,valOk,valN,o1,o2,hexOk_no s (a+1+1) o2]
     rw[e,t];exact ⟨rfl,rfl,fun h=>by cases h⟩
   · have e:headV s a={ ok:=true,i:=a+3,it:={ c:=39,b:=16*hexV (bt s (a+1))+hexV (bt s (a+2)),pl:=a } }:=by simp[headV,h,h1,h2]
     have o2:hexOk s (a+1+1)=true:=by unfold hexOk;rw[show a+1+1=a+2 by omega];simp;omega
     have t:tailH (sh 2) s (a+1) (pt0 2 (bt s a) a)=⟨true,a+3,{ pt0 2 (bt s a) a with vl:=hexV (bt s (a+1))*16+hexV (bt s (a+1+1)) }⟩:=by
      simp[tailH,tailW,tailD,tailX,sh,shapesL,valOk,valN,o1,o2,(hexOk_lt s (a+1+1) o2).2]
     rw[e,t]
     exact ⟨rfl,rfl,fun _=>⟨rfl,⟨rfl,rfl,(show hexV (bt s (a+1))*16+hexV (bt s (a+2))=16*hexV (bt s (a+1))+hexV (bt s (a+2)) by omega),fun h=>absurd (show (39:Int)=82 from h) (by decide),fun h=>absurd (show kD 39=true from h) (by decide)⟩⟩⟩
theorem match_110 (s:ByteArray)(a:Nat)(h:bt s a=110):Match s a 0:=by
 unfold Match
 by_cases h1:49≤bt s (a+1)∧bt s (a+1)≤52
 · have k1:takeOk s (a+1) 49 52=true:=by simpa[takeOk] using h1
   have e:headV s a={ ok:=true,i:=a+2,inn:=0,it:={ c:=110,w:=bt s (a+1)-48,pl:=a } }:=by simp[headV,depHd,h,kAny,kW,kD,kIn,inB,h1]
   have t:tailH (sh 0) s (a+1) (pt0 0 (bt s a) a)=⟨true,a+2,{ pt0 0 (bt s a) a with wd:=bt s (a+1)-48 }⟩:=by simp[tailH,tailW,tailD,tailX,sh,shapesL,stepI,k1]
   rw[e,t]
   exact ⟨rfl,rfl,fun _=>⟨rfl,⟨(by decide:(0:Int)=kOf 110),rfl,rfl,fun h=>absurd (show (110:Int)=82 from h) (by decide),fun h=>absurd (show kD 110=true from h) (by decide)⟩⟩⟩
 · have k1:takeOk s (a+1) 49 52=false:=by simpa[takeOk] using h1
   have e:headV s a={ ok:=false,i:=a+1 }:=by simp[headV,h,kAny,kW,inB,h1]
   have t:tailH (sh 0) s (a+1) (pt0 0 (bt s a) a)=⟨false,a+1,{ pt0 0 (bt s a) a with wd:=bt s (a+1)-48 }⟩:=by simp[tailH,tailW,sh,shapesL,stepI,k1]
   rw[e,t];exact ⟨rfl,rfl,fun h=>by cases h⟩
theorem match_108 (s:ByteArray)(a:Nat)(h:bt s a=108):Match s a 1:=by
 unfold Match
 by_cases h1:49≤bt s (a+1)∧bt s (a+1)≤52
 · have k1:takeOk s (a+1) 49 52=true:=by simpa[takeOk] using h1
   have e:headV s a={ ok:=true,i:=a+2,inn:=0,it:={ c:=108,w:=bt s (a+1)-48,pl:=a } }:=by simp[headV,depHd,h,kAny,kW,kD,kIn,inB,h1]
   have t:tailH (sh 1) s (a+1) (pt0 1 (bt s a) a)=⟨true,a+2,{ pt0 1 (bt s a) a with wd:=bt s (a+1)-48 }⟩:=by simp[tailH,tailW,tailD,tailX,sh,shapesL,stepI,k1]
   rw[e,t]
   exact ⟨rfl,rfl,fun _=>⟨rfl,⟨(by decide:(1:Int)=kOf 108),rfl,rfl,fun h=>absurd (show (108:Int)=82 from h) (by decide),fun h=>absurd (show kD 108=true from h) (by decide)⟩⟩⟩
 · have k1:takeOk s (a+1) 49 52=false:=by simpa[takeOk] using h1
   have e:headV s a={ ok:=false,i:=a+1 }:=by simp[headV,h,kAny,kW,inB,h1]
   have t:tailH (sh 1) s (a+1) (pt0 1 (bt s a) a)=⟨false,a+1,{ pt0 1 (bt s a) a with wd:=bt s (a+1)-48 }⟩:=by simp[tailH,tailW,sh,shapesL,stepI,k1]
   rw[e,t];exact ⟨rfl,rfl,fun h=>by cases h⟩
theorem match_40 (s:ByteArray)(a:Nat)(h:bt s a=40):Match s a 3:=by
 unfold Match
 have e:headV s a={ ok:=true,i:=a+1,inn := -1,it:={ c:=40,pl:=a } }:=by simp[headV,depHd,h,kAny,kW,kD,kIn,inB]
 have t:tailH (sh 3) s (a+1) (pt0 3 (bt s a) a)=⟨true,a+1,pt0 3 (bt s a) a⟩:=by simp[tailH,tailW,tailD,tailX,sh,shapesL]
 rw[e,t]
 exact ⟨rfl,rfl,fun _=>⟨rfl,⟨(by decide:(3:Int)=kOf 40),rfl,rfl,fun h=>absurd (show (40:Int)=82 from h) (by decide),fun h=>absurd (show kD 40=true from h) (by decide)⟩⟩⟩
theorem match_47 (s:ByteArray)(a:Nat)(h:bt s a=47):Match s a 4:=by
 unfold Match
 have e:headV s a={ ok:=true,i:=a+1,inn:=2,it:={ c:=47,pl:=a } }:=by simp[headV,depHd,h,kAny,kW,kD,kIn,inB]
 have t:tailH (sh 4) s (a+1) (pt0 4 (bt s a) a)=⟨true,a+1,pt0 4 (bt s a) a⟩:=by simp[tailH,tailW,tailD,tailX,sh,shapesL]
 rw[e,t]
 exact ⟨rfl,rfl,fun _=>⟨rfl,⟨(by decide:(4:Int)=kOf 47),rfl,rfl,fun h=>absurd (show (47:Int)=82 from h) (by decide),fun h=>absurd (show kD 47=true from h) (by decide)⟩⟩⟩
theorem match_42 (s:ByteArray)(a:Nat)(h:bt s a=42):Match s a 5:=by
 unfold Match
 have e:headV s a={ ok:=true,i:=a+1,inn:=1,it:={ c:=42,pl:=a } }:=by simp[headV,depHd,h,kAny,kW,kD,kIn,inB]
 have t:tailH (sh 5) s (a+1) (pt0 5 (bt s a) a)=⟨true,a+1,pt0 5 (bt s a) a⟩:=by simp[tailH,tailW,tailD,tailX,sh,shapesL]
 rw[e,t]
 exact ⟨rfl,rfl,fun _=>⟨rfl,⟨(by decide:(5:Int)=kOf 42),rfl,rfl,fun h=>absurd (show (42:Int)=82 from h) (by decide),fun h=>absurd (show kD 42=true from h) (by decide)⟩⟩⟩
theorem match_104 (s:ByteArray)(a:Nat)(h:bt s a=104):Match s a 7:=by
 unfold Match
 by_cases h1:49≤bt s (a+1)∧bt s (a+1)≤52
 · have k1:takeOk s (a+1) 49 52=true:=by simpa[takeOk] using h1
   by_cases h2:97≤bt s (a+2)∧bt s (a+2)≤104
   · have k2:takeOk s (a+1+1) 97 104=true:=by simpa[takeOk] using h2
     have e:headV s a={ ok:=true,i:=a+3,inn:=0,it:={ c:=104,w:=bt s (a+1)-48,d:=bt s (a+2)-97,pl:=((a+2:Nat):Int) } }:=by simp[headV,depHd,h,kAny,kW,kD,kIn,inB,h1,h2]
     have t:tailH (sh 7) s (a+1) (pt0 7 (bt s a) a)=⟨true,a+3,{ pt0 7 (bt s a) a with wd:=bt s (a+1)-48,dpl:=((a+2:Nat):Int),dp:=bt s (a+2)-97 }⟩:=by simp[tailH,tailW,tailD,tailX,sh,shapesL,stepI,k1,k2];omega
     rw[e,t]
     exact ⟨rfl,rfl,fun _=>⟨rfl,⟨(by decide:(7:Int)=kOf 104),rfl,rfl,fun h=>absurd (show (104:Int)=82 from h) (by decide),fun _=>⟨rfl,rfl⟩⟩⟩⟩
   · have k2:takeOk s (a+1+1) 97 104=false:=by simpa[takeOk] using h2
     have e:headV s a={ ok:=false,i:=a+2 }:=by simp[headV,depHd,h,kAny,kW,kD,inB,h1,h2]
     have t:tailH (sh 7) s (a+1) (pt0 7 (bt s a) a)=⟨false,a+2,{ pt0 7 (bt s a) a with wd:=bt s (a+1)-48,dpl:=((a+2:Nat):Int),dp:=bt s (a+2)-97 }⟩:=by simp[tailH,tailW,tailD,sh,shapesL,stepI,k1,k2];omega
     rw[e,t];exact ⟨rfl,rfl,fun h=>by cases h⟩
 · have k1:takeOk s (a+1) 49 52=false:=by simpa[takeOk] using h1
   have e:headV s a={ ok:=false,i:=a+1 }:=by simp[headV,h,kAny,kW,inB,h1]
   have t:tailH (sh 7) s (a+1) (pt0 7 (bt s a) a)=⟨false,a+1,{ pt0 7 (bt s a) a with wd:=bt s (a+1)-48 }⟩:=by simp[tailH,tailW,sh,shapesL,stepI,k1]
   rw[e,t];exact ⟨rfl,rfl,fun h=>by cases h⟩
theorem match_107 (s:ByteArray)(a:Nat)(h:bt s a=107):Match s a 8:=by
 unfold Match
 by_cases h1:49≤bt s (a+1)∧bt s (a+1)≤52
 · have k1:takeOk s (a+1) 49 52=true:=by simpa[takeOk] using h1
   by_cases h2:97≤bt s (a+2)∧bt s (a+2)≤104
   · have k2:takeOk s (a+1+1) 97 104=true:=by simpa[takeOk] using h2
     have e:headV s a={ ok:=true,i:=a+3,inn:=0,it:={ c:=107,w:=bt s (a+1)-48,d:=bt s (a+2)-97,pl:=((a+2:Nat):Int) } }:=by simp[headV,depHd,h,kAny,kW,kD,kIn,inB,h1,h2]
     have t:tailH (sh 8) s (a+1) (pt0 8 (bt s a) a)=⟨true,a+3,{ pt0 8 (bt s a) a with wd:=bt s (a+1)-48,dpl:=((a+2:Nat):Int),dp:=bt s (a+2)-97 }⟩:=by simp[tailH,tailW,tailD,tailX,sh,shapesL,stepI,k1,k2];omega
     rw[e,t]
     exact ⟨rfl,rfl,fun _=>⟨rfl,⟨(by decide:(8:Int)=kOf 107),rfl,rfl,fun h=>absurd (show (107:Int)=82 from h) (by decide),fun _=>⟨rfl,rfl⟩⟩⟩⟩
   · have k2:takeOk s (a+1+1) 97 104=false:=by simpa[takeOk] using h2
     have e:headV s a={ ok:=false,i:=a+2 }:=by simp[headV,depHd,h,kAny,kW,kD,inB,h1,h2]
     have t:tailH (sh 8) s (a+1) (pt0 8 (bt s a) a)=⟨false,a+2,{ pt0 8 (bt s a) a with wd:=bt s (a+1)-48,dpl:=((a+2:Nat):Int),dp:=bt s (a+2)-97 }⟩:=by simp[tailH,tailW,tailD,sh,shapesL,stepI,k1,k2];omega
     rw[e,t];exact ⟨rfl,rfl,fun h=>by cases h⟩
 · have k1:takeOk s (a+1) 49 52=false:=by simpa[takeOk] using h1
   have e:headV s a={ ok:=false,i:=a+1 }:=by simp[headV,h,kAny,kW,inB,h1]
   have t:tailH (sh 8) s (a+1) (pt0 8 (bt s a) a)=⟨false,a+1,{ pt0 8 (bt s a) a with wd:=bt s (a+1)-48 }⟩:=by simp[tailH,tailW,sh,shapesL,stepI,k1]
   rw[e,t];exact ⟨rfl,rfl,fun h=>by cases h⟩
theorem match_114 (s:ByteArray)(a:Nat)(h:bt s a=114):Match s a 9:=by
 unfold Match
 by_cases h1:97≤bt s (a+1)∧bt s (a+1)≤104
 · have k1:takeOk s (a+1) 97 104=true:=by simpa[takeOk] using h1
   have e:headV s a={ ok:=true,i:=a+2,inn:=0,it:={ c:=114,d:=bt s (a+1)-97,pl:=((a+1:Nat):Int) } }:=by simp[headV,depHd,h,kAny,kW,kD,kIn,inB,h1]
   have t:tailH (sh 9) s (a+1) (pt0 9 (bt s a) a)=⟨true,a+2,{ pt0 9 (bt s a) a with dpl:=((a+1:Nat):Int),dp:=bt s (a+1)-97 }⟩:=by simp[tailH,tailW,tailD,tailX,sh,shapesL,stepI,k1]
   rw[e,t]
   exact ⟨rfl,rfl,fun _=>⟨rfl,⟨(by decide:(9:Int)=kOf 114),rfl,rfl,fun h=>absurd (show (114:Int)=82 from h) (by decide),fun _=>⟨rfl,rfl⟩⟩⟩⟩
 · have k1:takeOk s (a+1) 97 104=false:=by simpa[takeOk] using h1
   have e:headV s a={ ok:=false,i:=a+1 }:=by simp[headV,depHd,h,kAny,kW,kD,inB,h1]
   have t:tailH (sh 9) s (a+1) (pt0 9 (bt s a) a)=⟨false,a+1,{ pt0 9 (bt s a) a with dpl:=((a+1:Nat):Int),dp:=bt s (a+1)-97 }⟩:=by simp[tailH,tailW,tailD,sh,shapesL,stepI,k1]
   rw[e,t];exact ⟨rfl,rfl,fun h=>by cases h⟩
theorem match_116 (s:ByteArray)(a:Nat)(h:bt s a=116):Match s a 10:=by
 unfold Match
 by_cases h1:97≤bt s (a+1)∧bt s (a+1)≤104
 · have k1:takeOk s (a+1) 97 104=true:=by simpa[takeOk] using h1
   have e:headV s a={ ok:=true,i:=a+2,inn:=1,it:={ c:=116,d:=bt s (a+1)-97,pl:=((a+1:Nat):Int) } }:=by simp[headV,depHd,h,kAny,kW,kD,kIn,inB,h1]
   have t:tailH (sh 10) s (a+1) (pt0 10 (bt s a) a)=⟨true,a+2,{ pt0 10 (bt s a) a with dpl:=((a+1:Nat):Int),dp:=bt s (a+1)-97 }⟩:=by simp[tailH,tailW,tailD,tailX,sh,shapesL,stepI,k1]
   rw[e,t]
   exact ⟨rfl,rfl,fun _=>⟨rfl,⟨(by decide:(10:Int)=kOf 116),rfl,rfl,fun h=>absurd (show (116:Int)=82 from h) (by decide),fun _=>⟨rfl,rfl⟩⟩⟩⟩
 · have k1:takeOk s (a+1) 97 104=false:=by simpa[takeOk] using h1
   have e:headV s a={ ok:=false,i:=a+1 }:=by simp[headV,depHd,h,kAny,kW,kD,inB,h1]
   have t:tailH (sh 10) s (a+1) (pt0 10 (bt s a) a)=⟨false,a+1,{ pt0 10 (bt s a) a with dpl:=((a+1:Nat):Int),dp:=bt s (a+1)-97 }⟩:=by simp[tailH,tailW,tailD,sh,shapesL,stepI,k1]
   rw[e,t];exact ⟨rfl,rfl,fun h=>by cases h⟩
theorem match_119 (s:ByteArray)(a:Nat)(h:bt s a=119):Match s a 11:=by
 unfold Match
 by_cases h1:97≤bt s (a+1)∧bt s (a+1)≤104
 · have k1:takeOk s (a+1) 97 104=true:=by simpa[takeOk] using h1
   have e:headV s a={ ok:=true,i:=a+2,inn:=1,it:={ c:=119,d:=bt s (a+1)-97,pl:=((a+1:Nat):Int) } }:=by simp[headV,depHd,h,kAny,kW,kD,kIn,inB,h1]
   have t:tailH (sh 11) s (a+1) (pt0 11 (bt s a) a)=⟨true,a+2,{ pt0 11 (bt s a) a with dpl:=((a+1:Nat):Int),dp:=bt s (a+1)-97 }⟩:=by simp[tailH,tailW,tailD,tailX,sh,shapesL,stepI,k1]
   rw[e,t]
   exact ⟨rfl,rfl,fun _=>⟨rfl,⟨(by decide:(11:Int)=kOf 119),rfl,rfl,fun h=>absurd (show (119:Int)=82 from h) (by decide),fun _=>⟨rfl,rfl⟩⟩⟩⟩
 · have k1:takeOk s (a+1) 97 104=false:=by simpa[takeOk] using h1
   have e:headV s a={ ok:=false,i:=a+1 }:=by simp[headV,depHd,h,kAny,kW,kD,inB,h1]
   have t:tailH (sh 11) s (a+1) (pt0 11 (bt s a) a)=⟨false,a+1,{ pt0 11 (bt s a) a with dpl:=((a+1:Nat):Int),dp:=bt s (a+1)-97 }⟩:=by simp[tailH,tailW,tailD,sh,shapesL,stepI,k1]
   rw[e,t];exact ⟨rfl,rfl,fun h=>by cases h⟩
theorem match_64 (s:ByteArray)(a:Nat)(h:bt s a=64):Match s a 12:=by
 unfold Match
 by_cases h1:97≤bt s (a+1)∧bt s (a+1)≤104
 · have k1:takeOk s (a+1) 97 104=true:=by simpa[takeOk] using h1
   have e:headV s a={ ok:=true,i:=a+2,inn:=1,it:={ c:=64,d:=bt s (a+1)-97,pl:=((a+1:Nat):Int) } }:=by simp[headV,depHd,h,kAny,kW,kD,kIn,inB,h1]
   have t:tailH (sh 12) s (a+1) (pt0 12 (bt s a) a)=⟨true,a+2,{ pt0 12 (bt s a) a with dpl:=((a+1:Nat):Int),dp:=bt s (a+1)-97 }⟩:=by simp[tailH,tailW,tailD,tailX,sh,shapesL,stepI,k1]
   rw[e,t]
   exact ⟨rfl,rfl,fun _=>⟨rfl,⟨(by decide:(12:Int)=kOf 64),rfl,rfl,fun h=>absurd (show (64:Int)=82 from h) (by decide),fun _=>⟨rfl,rfl⟩⟩⟩⟩
 · have k1:takeOk s (a+1) 97 104=false:=by simpa[takeOk] using h1
   have e:headV s a={ ok:=false,i:=a+1 }:=by simp[headV,depHd,h,kAny,kW,kD,inB,h1]
   have t:tailH (sh 12) s (a+1) (pt0 12 (bt s a) a)=⟨false,a+1,{ pt0 12 (bt s a) a with dpl:=((a+1:Nat):Int),dp:=bt s (a+1)-97 }⟩:=by simp[tailH,tailW,tailD,sh,shapesL,stepI,k1]
   rw[e,t];exact ⟨rfl,rfl,fun h=>by cases h⟩
theorem match_115 (s:ByteArray)(a:Nat)(h:bt s a=115):Match s a 13:=by
 unfold Match
 by_cases h1:97≤bt s (a+1)∧bt s (a+1)≤104
 · have k1:takeOk s (a+1) 97 104=true:=by simpa[takeOk] using h1
   have e:headV s a={ ok:=true,i:=a+2,inn:=1,it:={ c:=115,d:=bt s (a+1)-97,pl:=((a+1:Nat):Int) } }:=by simp[headV,depHd,h,kAny,kW,kD,kIn,inB,h1]
   have t:tailH (sh 13) s (a+1) (pt0 13 (bt s a) a)=⟨true,a+2,{ pt0 13 (bt s a) a with dpl:=((a+1:Nat):Int),dp:=bt s (a+1)-97 }⟩:=by simp[tailH,tailW,tailD,tailX,sh,shapesL,stepI,k1]
   rw[e,t]
   exact ⟨rfl,rfl,fun _=>⟨rfl,⟨(by decide:(13:Int)=kOf 115),rfl,rfl,fun h=>absurd (show (115:Int)=82 from h) (by decide),fun _=>⟨rfl,rfl⟩⟩⟩⟩
 · have k1:takeOk s (a+1) 97 104=false:=by simpa[takeOk] using h1
   have e:headV s a={ ok:=false,i:=a+1 }:=by simp[headV,depHd,h,kAny,kW,kD,inB,h1]
   have t:tailH (sh 13) s (a+1) (pt0 13 (bt s a) a)=⟨false,a+1,{ pt0 13 (bt s a) a with dpl:=((a+1:Nat):Int),dp:=bt s (a+1)-97 }⟩:=by simp[tailH,tailW,tailD,sh,shapesL,stepI,k1]
   rw[e,t];exact ⟨rfl,rfl,fun h=>by cases h⟩
theorem match_46 (s:ByteArray)(a:Nat)(h:bt s a=46):Match s a 14:=by
 unfold Match
 have e:headV s a={ ok:=true,i:=a+1,inn:=0,it:={ c:=46,pl:=a } }:=by simp[headV,depHd,h,kAny,kW,kD,kIn,inB]
 have t:tailH (sh 14) s (a+1) (pt0 14 (bt s a) a)=⟨true,a+1,pt0 14 (bt s a) a⟩:=by simp[tailH,tailW,tailD,tailX,sh,shapesL]
 rw[e,t]
 exact ⟨rfl,rfl,fun _=>⟨rfl,⟨(by decide:(14:Int)=kOf 46),rfl,rfl,fun h=>absurd (show (46:Int)=82 from h) (by decide),fun h=>absurd (show kD 46=true from h) (by decide)⟩⟩⟩
theorem match_all (s:ByteArray)(a j:Nat)(h:kindV (bt s a)=j)(hj:j<15):Match s a j:=by
 have h2:=kindV_in _ _ h hj
 have h15:j=0∨j=1∨j=2∨j=3∨j=4∨j=5∨j=6∨j=7∨j=8∨j=9∨j=10∨j=11∨j=12∨j=13∨j=14:=by omega
 rcases h15 with rfl | rfl | rfl | rfl | rfl | rfl | rfl | rfl | rfl | rfl | rfl | rfl | rfl | rfl | rfl
 · exact match_110 s a (by simp[sh,shapesL] at h2;omega)
 · exact match_108 s a (by simp[sh,shapesL] at h2;omega)
 · exact match_fix s a (by simp[sh,shapesL] at h2;omega)
 · exact match_40 s a (by simp[sh,shapesL] at h2;omega)
 · exact match_47 s a (by simp[sh,shapesL] at h2;omega)
 · exact match_42 s a (by simp[sh,shapesL] at h2;omega)
 · exact match_rule s a (by simpa[sh,shapesL] using h2)
 · exact match_104 s a (by simp[sh,shapesL] at h2;omega)
 · exact match_107 s a (by simp[sh,shapesL] at h2;omega)
 · exact match_114 s a (by simp[sh,shapesL] at h2;omega)
 · exact match_116 s a (by simp[sh,shapesL] at h2;omega)
 · exact match_119 s a (by simp[sh,shapesL] at h2;omega)
 · exact match_64 s a (by simp[sh,shapesL] at h2;omega)
 · exact match_115 s a (by simp[sh,shapesL] at h2;omega)
 · exact match_46 s a (by simp[sh,shapesL] at h2;omega)
theorem match_none (s:ByteArray)(a:Nat)(h:kindV (bt s a)=15):headV s a={ ok:=false,i:=a }:=by
 have hn:∀ x,x∈shapesL→¬ (x.a≤bt s a∧bt s a≤x.b):=by
  intro x hx
  unfold kindV at h
  rw[show (15:Nat)=shapesL.length from rfl,List.findIdx_eq_length] at h
  have:=h x hx
  simpa using this
 simp[shapesL] at hn
 obtain ⟨n0,n1,n2,n3,n4,n5,n6,n7,n8,n9,n10,n11,n12,n13,n14⟩:=hn
 unfold headV
 rw[if_neg (by omega),if_neg (by omega),if_neg ?_]
 intro hk
 simp only[kAny,inB,List.any_cons,List.any_nil,Bool.or_false,Bool.or_eq_true,beq_iff_eq] at hk
 rcases hk with hk | hk | hk | hk | hk | hk | hk | hk | hk | hk | hk | hk | hk<;>simp at hk<;>omega
theorem sh_bd (j:Nat)(hj:j<15) : -1≤(sh j).n∧(sh j).n≤2:=by
 have h15:j=0∨j=1∨j=2∨j=3∨j=4∨j=5∨j=6∨j=7∨j=8∨j=9∨j=10∨j=11∨j=12∨j=13∨j=14:=by omega
 rcases h15 with rfl | rfl | rfl | rfl | rfl | rfl | rfl | rfl | rfl | rfl | rfl | rfl | rfl | rfl | rfl<;>decide
set_option maxRecDepth 100000 in
set_option maxHeartbeats 8000000 in
theorem tail_w (s:ByteArray)(rule:Int)(hs:s.size≤400)(f:Nat)(ih:PartS s rule f)(x:Sh)(hn1 : -1≤x.n)(hn2:x.n≤2)(hw:x.w=true)(hd:x.d=false)(hv:x.v=false)(w:World)(rb pb i:Nat)(p:Pt)(hr:Rd w rb s i)(hS:Shp w)(h0:0<rb)(hrp:rb<pb)(hi:i≤s.size)(hf:s.size+1-i≤f)(hM:Mk f w pb false p [])(hnil:p.v=.slice none 0 0):
 Calls Tryz.prog 172 #[.pointer (some ⟨rb,0,none⟩),.pointer (some ⟨pb,0,none⟩),.agg x.row] w fun e w'=>TailPost s f rb pb w (tailH x s i p).p x.n (tailR (prs s rule f) s f x.n (tailH x s i p)) e w':=by
 have HS:Hid (Shp w):=hS
 have HI:Hid (PartS s rule f):=ih
 have hpl:=hM.blk.lt
 have HST:Hid (St s f rb pb w.heap.size x w i p (w.alloc (.cells x.row 252))):=
  ⟨Blk.alloc hr _,hM.fr ((Fr.refl _ _ _).alloc (Nat.le_refl _) _) hrp,hnil,(Fr.refl _ _ _).alloc (by omega) _,by simp,Blk.new _ _ _⟩
 have HW:Hid (x.w=true):=hw
 have HD:Hid (x.d=false):=hd
 have HV:Hid (x.v=false):=hv
 clear hr hM hS ih hnil
 go_enter Tryz.func172,Tryz.ntmps172
 simp only[Sh.row,hw,hd,hv] at HST ⊢
 clear hw hd hv
 go_wp2_with fail
 generalize hWA:(w.alloc (.cells #[.int .u8 x.a,.int .u8 x.b,.bool true,.bool false,.bool false,.int .i64 x.n] 252))=WA at *
 clear hWA
 generalize hbx:w.heap.size=bx at *
 have HBX:=hide' hbx
 clear hbx
 refine (width_calls WA rb pb s i p HST.out.rd HST.out.made.blk (by omega) hs (by omega)).mono ?_
 rintro e w1 ⟨rfl,hsm,hrd,p',hp',hv',hpe⟩
 cases hok:takeOk s i 49 52
 · have HTF:Hid (tailR (prs s rule f) s f x.n (tailH x s i p)=⟨false,i,[]⟩):=by
    have:tailR (prs s rule f) s f x.n (tailH x s i p)=⟨false,i,[]⟩:=by
     simp[tailR,tailH,tailW,HW.out,hok,stepI]
    exact this
   rw[hok] at hrd
   have hrd2:Rd w1 rb s (i):=hrd
   have hfr2:=HST.out.fr.trans (hsm.fr _ (Nat.le_refl _))
   have hsz2:w.heap.size≤w1.heap.size:=by have:=HST.out.sz;have:=hsm.size;omega
   clear hok hpe
   simp only
   go_wp2_with fail
   go_ret
   rw[HTF.out]
   exact ⟨rfl,hrd2,hfr2,hsz2,fun h=>by cases h⟩
 have hpe:=hpe hok
 subst hpe
 have hlt:=takeOk_lt s i 49 52 hok (by omega)
 rw[hok] at hrd
 have HOK0:=hide' hok
 have hrd2:Rd w1 rb s (i+1):=hrd
 have HST:=hide' (HST.out.next hsm hrd2 hp' rfl (by omega) (by omega))
 clear hok hrd hp' hv' hsm hrd2
 have b2w1:w1.cell? ⟨bx,2,none⟩=some (.bool true):=by have h:=HST.out.box.cell 2;rw[h,← HW.out];rfl
 have b3w1:w1.cell? ⟨bx,3,none⟩=some (.bool false):=by have h:=HST.out.box.cell 3;rw[h,← HD.out];rfl
 have b4w1:w1.cell? ⟨bx,4,none⟩=some (.bool false):=by have h:=HST.out.box.cell 4;rw[h,← HV.out];rfl
 simp only
 go_upto_region 7 with fail
 have HTH:Hid (tailH x s i p=⟨true,(i+1),{ p with wd:=bt s i-48 }⟩):=by
  have:tailH x s i p=⟨true,(i+1),{ p with wd:=bt s i-48 }⟩:=by
   simp[tailH,tailW,tailD,tailX,HW.out,HD.out,HV.out,stepI,HOK0.out]
  exact this
 -- the parts within
 have HS3:Hid (Shp w1):=HS.out.fr HST.out.fr h0 (by omega)
 have b5:w1.cell? ⟨bx,5,none⟩=some (.int .i64 x.n):=HST.out.box.cell 5
 have HRT:Hid (tailR (prs s rule f) s f x.n (tailH x s i p)=if x.n<0 then loopB (prs s rule f) s f (i+1) else loopN (prs s rule f) x.n.toNat (i+1)):=by
  have:tailR (prs s rule f) s f x.n (tailH x s i p)=if x.n<0 then loopB (prs s rule f) s f (i+1) else loopN (prs s rule f) x.n.toNat (i+1):=by unfold tailR;rw[HTH.out];simp
  exact this
 have HQ:Hid ((tailH x s i p).p={ p with wd:=bt s i-48 }):=by
  have:(tailH x s i p).p={ p with wd:=bt s i-48 }:=by rw[HTH.out]
  exact this
 clear HTH
 by_cases hneg:x.n = -1
 · have hneg':(x.n == -1)=true:=by simpa using hneg
   have HRT2:Hid (tailR (prs s rule f) s f x.n (tailH x s i p)=loopB (prs s rule f) s f (i+1)):=by
    have:tailR (prs s rule f) s f x.n (tailH x s i p)=loopB (prs s rule f) s f (i+1):=by rw[HRT.out,if_pos (by omega)]
    exact this
   have HNEG:=hide' hneg
   clear HRT hneg
   go_wp2_with fail
   refine (bracket_calls s rule hs f HI.out _ rb pb (i+1) { p with wd:=bt s i-48 } HST.out.rd HS3.out h0 hrp (by omega) (by omega) HST.out.made.any).mono ?_
   rintro e w7 ⟨rfl,d1,d2,d3,d4⟩
   simp only
   go_wp2_with fail
   go_ret
   rw[HRT2.out,HQ.out]
   refine ⟨rfl,d1,HST.out.fr.trans d2,by have:=HST.out.sz;omega,fun h=>?_⟩
   obtain ⟨more,v',e1,e2⟩:=d4 h
   exact ⟨more,v',by rw[decide_eq_true (by have:=HNEG.out;omega)];simpa using e1,e2⟩
 · have hneg':(x.n == -1)=false:=by simpa using hneg
   obtain ⟨m,hm⟩:∃ m:Nat,x.n=(m:Int):=⟨x.n.toNat,by omega⟩
   have HRT2:Hid (tailR (prs s rule f) s f x.n (tailH x s i p)=loopN (prs s rule f) m (i+1)):=by
    have:tailR (prs s rule f) s f x.n (tailH x s i p)=loopN (prs s rule f) m (i+1):=by rw[HRT.out,if_neg (by omega),hm];rfl
    exact this
   have HMm:=hide' hm
   rw[hm] at b5 hneg'
   have hm2:m≤2:=by omega
   clear HRT hneg hm hn1 hn2
   go_wp2_with fail
   go_loopw [39] (fun v39 wr=>∃ (i' k:Nat) (kids:List (Nat × List It)) (v:Value),v39=.int .i64 k∧Hid (AtN s rule f rb pb w { p with wd:=bt s i-48 } m (i+1) i' k kids v wr)) (fun v39 _=>m-(intOf v39).toNat)
   case atStart=>exact ⟨(i+1),0,[],_,rfl,⟨HST.out.rd,HST.out.made,HST.out.fr,HST.out.sz,by omega,Nat.le_refl _,by simp,by omega,by simp[Res.pre]⟩⟩
   case round=>
    obtain ⟨i',k,kids,v,rfl,hat⟩:=hrel
    have Ha:=hat
    obtain ⟨a1,a2,a3,a4,a5,a6,a7,a8,a9⟩:=hat.out
    by_cases hlt:k<m
    · have HSr:Hid (Shp wr):=HS.out.fr a3 h0 (by omega)
      have HUn:Hid (loopN (prs s rule f) (m-k) i'=if (prs s rule f i').ok=true then (loopN (prs s rule f) (m-(k+1)) (prs s rule f i').i).pre (prs s rule f i').its else ⟨false,(prs s rule f i').i,[]⟩):=by
       have:loopN (prs s rule f) (m-k) i'=if (prs s rule f i').ok=true then (loopN (prs s rule f) (m-(k+1)) (prs s rule f i').i).pre (prs s rule f i').its else ⟨false,(prs s rule f i').i,[]⟩:=by
        rw[show m-k=(m-(k+1))+1 by omega,loopN]
       exact this
      have HA9:Hid (loopN (prs s rule f) m (i+1)=(loopN (prs s rule f) (m-k) i').pre (kids.flatMap Prod.snd)):=a9
      have HGood:Hid ((prs s rule f i').i≤s.size∧i'≤(prs s rule f i').i∧((prs s rule f i').ok=true→i'<(prs s rule f i').i∧(prs s rule f i').its.length≤(prs s rule f i').i-i')):=prs_good s rule f i' a5
      clear a1 a2 a9 hat
      go_wp2_with fail
      refine (innerPart_calls s rule f HI.out wr rb pb i' false { { p with wd:=bt s i-48 } with v:=v } kids Ha.out.rd HSr.out h0 hrp a5 (by omega) Ha.out.made (by omega)).mono ?_
      rintro e w2 ⟨rfl,b1,b2,b3,b4⟩
      generalize hpr:prs s rule f i'=r at *
      clear hpr
      obtain ⟨rok,ri,rits⟩:=r
      cases rok
      · have HF:Hid (loopN (prs s rule f) m (i+1)=⟨false,ri,kids.flatMap Prod.snd⟩):=by
         have:loopN (prs s rule f) m (i+1)=⟨false,ri,kids.flatMap Prod.snd⟩:=by
          have h:=HUn.out
          rw[HA9.out,h];simp[Res.pre]
         exact this
        clear HUn HA9
        simp only
        go_wp2_with fail
        go_ret
        rw[HRT2.out,HF.out]
        exact ⟨rfl,b1,a3.trans b2,by omega,fun h=>by cases h⟩
      · obtain ⟨q,v',hmk⟩:=b4 rfl
        obtain ⟨g1,g2,_⟩:=HGood.out
        simp only at b1 g1 g2
        have HN:Hid (AtN s rule f rb pb w { p with wd:=bt s i-48 } m (i+1) ri (k+1) (kids++[(q,rits)]) v' w2):=by
         refine ⟨b1,hmk.all,a3.trans b2,by omega,g1,by omega,by simp;omega,by omega,?_⟩
         have h:=HUn.out
         rw[if_pos (by trivial)] at h
         rw[HA9.out,h,Res.pre_pre'];simp
        clear b4 hmk HUn HA9 HGood b1 b2
        simp only
        go_wp2_with fail
        go_roundw
        case rel=>exact ⟨ri,k+1,_,v',by go_num,HN⟩
        case measure=>simp[intOf];omega
    · have HF:Hid (loopN (prs s rule f) m (i+1)=⟨true,i',kids.flatMap Prod.snd⟩):=by
       have:loopN (prs s rule f) m (i+1)=⟨true,i',kids.flatMap Prod.snd⟩:=by
        rw[a9,show m-k=0 by omega];simp[loopN,Res.pre]
       exact this
      clear a9
      go_wp2_with fail
      go_ret
      rw[HRT2.out,HQ.out,HF.out]
      exact ⟨rfl,a1,a3,a4,fun _=>⟨kids,v,by rw[decide_eq_false (by have:=HMm.out;omega)];exact a2,rfl⟩⟩
end Go.Proofs.YtmlkhhhjdpbhfaaGreatDoor

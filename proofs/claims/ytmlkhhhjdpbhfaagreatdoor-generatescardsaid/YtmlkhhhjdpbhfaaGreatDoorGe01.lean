import Derived.Below
import Derived.Calls
import Derived.ChangeArms
import Derived.ChangeMaps5
import Derived.Deep.AppendLies
import Derived.Deep.QuietTactic
import Derived.Laws.Append
import Derived.Laws.AppendOwn
import Derived.Laws.BitsLemmas
import Derived.Laws.Entries
import Derived.Laws.IdiomStrings
import Derived.Laws.MakeOwn
import Derived.Laws.Rows
import Derived.Laws.Sem
import Derived.Laws.Strings
import Derived.Laws.Tables
import Derived.Lib.AppendStr
import Derived.Lib.ItoaNum
import Derived.MakeChecks
import Derived.Orders
import Derived.OwnWalk
import Derived.Still
import Derived.StillTail
import Derived.Tactics
import GoSem.Core.Value
import GoSem.Core.World
import Derived.Test.YtmlkhhhjdpbhfaaGreatDoorProg
import Derived.WalkKit
import Derived.WalkSpells
import Derived.BigQuiet
import Derived.WalkLawsBesides
import Derived.Deep.MidRow
import Derived.Deep.DeepCutAuto
import Derived.KernelRfl
import Derived.Deep.RegionHeld3
import Derived.Deep.DrawnRows
import Derived.Laws.Bits64b
theorem Go.RowKit.Hid.o{p:Prop}(h:Go.RowKit.Hid p):p:=h
namespace Go.Proofs.YtmlkhhhjdpbhfaaGreatDoor
open Go.RowKit Go.Proofs.Tryz
set_option maxHeartbeats 4000000
set_option maxRecDepth 100000
variable{p q:Prop}(z:q)
abbrev aB:=@Nat.le_refl
abbrev aC:=@if_neg
abbrev aF:=@if_pos
abbrev aG:=@List.mem_cons_self
abbrev aD:=@List
abbrev aH:=@List.mem_cons_of_mem
abbrev aA:=@ByteArray
abbrev aL:=@Go.World.cell?_of_block
abbrev aN:=@Go.RowKit.Below.heap_setCell
abbrev aO:=@Go.RowKit.Below.refl
abbrev aE:=@Go.World
abbrev aR:=@List.length_append
abbrev aV:=@List.mem_append
abbrev aU:=@List.getElem_mem
abbrev aM:=@Option
abbrev aX:=@List.length_cons
abbrev aW:=@List.getElem?_append_left
abbrev aZ:=@List.getD_eq_getElem?_getD
abbrev aY:=@Bool.and_eq_true
abbrev aT:=@Go.bodyPost_ret
abbrev bA:=@List.getElem?_eq_getElem
abbrev aI:=@Go.Value
abbrev bC:=@Go.RowKit.Below.heap_alloc
abbrev bB:=@List.mem_cons
abbrev bD:=@decide_eq_true_eq
abbrev bG:=@List.getElem?_append_right
abbrev bH:=@List.mem_of_getElem?
abbrev bF:=@decide_eq_true
abbrev bM:=@Nat.lt_of_lt_of_le
abbrev bN:=@List.take_succ_eq_append_getElem
abbrev bP:=@List.nodup_append
abbrev bO:=@List.append_assoc
abbrev bR:=@Nat.zero_le
abbrev bQ:=@Nat.le_trans
abbrev bI:=@List.getElem?_eq_some_iff
abbrev bE:=@Int.toNat_natCast
abbrev bJ:=@decide_eq_false
abbrev bT:=@Bool.false_eq_true
abbrev bX:=@List.map_cons
abbrev bV:=@List.take_of_length_le
abbrev bY:=@List.flatMap_cons
abbrev bW:=@List.mem_append_left
abbrev aJ:=@List.getElem?_cons_zero
abbrev aK:=@List.getElem?_cons_succ
abbrev cB:=@Classical.byContradiction
abbrev bZ:=@List.nodup_cons
abbrev cA:=@List.cons_append
abbrev cC:=@Go.World.ownsRow_nil
abbrev cF:=@List.drop_eq_getElem_cons
abbrev cG:=@List.eq_nil_of_length_eq_zero
abbrev cD:=@Go.World.news_of_block
abbrev cE:=@List.mem_append_right
abbrev bL:=@Go.wpStill_nil
abbrev cI:=@List.mem_flatMap
abbrev cJ:=@Go.heap_alloc_new
abbrev cM:=@List.length_map
abbrev aQ:=@List.getElem?_toArray
abbrev aP:=@List.filterMap_cons
abbrev cL:=@List.nil_append
abbrev cR:=@List.flatten_cons
abbrev cP:=@List.length_nil
abbrev cH:=@Bool.or_eq_true
abbrev cU:=@List.sum_cons
abbrev cW:=@Array.getElem?_eq_some_iff
abbrev cX:=@List.length_take
abbrev cS:=@Go.wpList_append_lies
abbrev cY:=@Go.info_parts
abbrev cV:=@ByteArray.size_extract
abbrev cO:=@Option.map_some
abbrev cT:=@if_false
abbrev dC:=@beq_eq_false_iff_ne
abbrev cN:=@Bool.or_false
abbrev dD:=@Go.IntKind.wrap_i64
abbrev dE:=@of_decide_eq_true
abbrev aS:=@List.filterMap_nil
abbrev cQ:=@List.any_cons
abbrev dH:=@Option.some.inj
abbrev dJ:=@List.size_toArray
abbrev dK:=@List.foldl_append
abbrev dL:=@List.drop_append_of_le_length
abbrev dM:=@List.mem_singleton
abbrev dN:=@List.drop_eq_nil_of_le
abbrev dO:=@List.map_append
abbrev dI:=@List.append_nil
abbrev dQ:=@List.length_drop
abbrev dS:=@Go.RowKit.ownsRow_setCell_below
abbrev dA:=@beq_iff_eq
abbrev dT:=@Bool.and_eq_false_iff
abbrev dF:=@List.mem_map
abbrev dV:=@List.map_nil
abbrev dU:=@if_true
abbrev dP:=@List.foldl_cons
abbrev cZ:=@Int.natCast_add
abbrev dR:=@Bool.true_and
abbrev dY:=@List.getElem_cons_zero
abbrev dZ:=@Go.ByteArray.toList_eq
abbrev eA:=@Option.isSome_iff_exists
abbrev eB:=@List.getElem?_take_of_lt
abbrev dX:=@Bool.false_and
abbrev eC:=@Nat.zero_add
abbrev dW:=@List.getElem?_modify
abbrev eE:=@Go.run_convert_bytes_back
abbrev eF:=@List.getElem_cons_succ
abbrev dG:=@List.any_nil
abbrev bU:=@List.take_succ_cons
abbrev eI:=@List.length_singleton
abbrev eJ:=@List.length_replicate
abbrev eK:=@Nat.le_add_right
abbrev eL:=@List.mem_filterMap
abbrev eN:=@List.mem_range
abbrev bS:=@List.drop_zero
abbrev eD:=@List.mem_filter
abbrev eG:=@List.mem_map_of_mem
abbrev eP:=@Go.Calls.quiet_of_same
abbrev eS:=@List.any_eq_true
abbrev eM:=@List.getElem?_drop
abbrev eH:=@List.take_append_drop
abbrev eU:=@Go.IntKind.wrap_u8
abbrev eV:=@Go.Oper.wp_mono
abbrev dB:=@Nat.mul_comm
abbrev eW:=@Nat.le_succ
abbrev eX:=@Int.le_refl
abbrev bK:=@List.drop_succ_cons
abbrev eZ:=@Nat.le_of_not_lt
abbrev fB:=@Ne.symm
abbrev fC:=@Nat.pow_succ
abbrev fD:=@List.sum_nil
abbrev fE:=@List.append_of_mem
abbrev eY:=@Go.wp_region_any
abbrev fG:=@List.getElem?_eq_none
abbrev fH:=@Array.getElem?_toList
abbrev fI:=@List.getElem?_map
abbrev fJ:=@Go.run_underlying
abbrev fK:=@Nat.mul_le_mul_right
abbrev eT:=@List.take_left
abbrev fL:=@List.mem_of_mem_take
abbrev fM:=@Go.Lib.decDigits_length
abbrev fN:=@Bool.or_eq_false_iff
abbrev fO:=@Go.Sem.run_pure
abbrev fP:=@Option.getD_some
abbrev eQ:=@Nat.le_of_eq
abbrev fQ:=@List.take_length
abbrev fR:=@List.nil_sublist
abbrev fA:=@List.ext_getElem
abbrev fS:=@List.getLastD_eq_getLast?
abbrev fT:=@List.getElem_of_mem
abbrev eO:=@List.flatMap_append
abbrev fU:=@Array.length_toList
abbrev fF:=@List.all_cons
abbrev fV:=@UInt8.toNat_ofNat'
abbrev fW:=@List.pairwise_cons
abbrev fY:=@Go.Sem.run_bind
abbrev fZ:=@Bool.not_eq_true'
abbrev gA:=@Go.Addr.add_lit
abbrev gB:=@List.filterMap_append
abbrev gC:=@List.Pairwise.sublist
abbrev gD:=@List.getElem_map
abbrev gE:=@ByteArray.ext
abbrev gJ:=@Nat.add_mul
abbrev gK:=@List.length_dropLast
abbrev gL:=@Array.size_replicate
abbrev gM:=@List.sum_append
abbrev gN:=@List.range_succ
abbrev gO:=@List.length_pos_iff
abbrev gP:=@Go.Lib.strCells_length
abbrev gQ:=@of_decide_eq_false
abbrev gI:=@congrArg
abbrev cK:=@List.take_zero
abbrev gR:=@List.ne_nil_of_mem
abbrev gT:=@Go.MakeChecks.laidMetH_plain
abbrev gV:=@Go.Result.andThen_ok
abbrev gW:=@Option.some.injEq
abbrev gX:=@Bool.eq_false_iff
abbrev gF:=@Bool.false_or
abbrev gG:=@Bool.and_true
abbrev gZ:=@Go.step_append_lies
abbrev hA:=@Go.mem_ready
abbrev hE:=@List.drop_length
abbrev hG:=@List.all_eq_true
abbrev hH:=@Go.IntKind.wrap_u32
abbrev hI:=@Int.eq_ofNat_of_zero_le
abbrev hJ:=@Go.ready_mono
abbrev hK:=@bne_iff_ne
abbrev hL:=@Nat.zero_mul
abbrev hM:=@Nat.le_of_lt
abbrev hO:=@Nat.div_div_eq_div_mul
abbrev hP:=@List.find?_cons_of_pos
abbrev hQ:=@Go.ChangeMaps.shut_string
abbrev hR:=@Go.ChangeMaps.open_string
abbrev hS:=@ByteArray.data_extract
abbrev hT:=@Option.map_none
abbrev hU:=@Go.Oper.upon_value
abbrev hV:=@Nat.min_eq_left
abbrev hX:=@Bool.eq_iff_iff
abbrev iA:=@Nat.pow_pos
abbrev iC:=@List.drop_drop
abbrev gS:=@Bool.and_false
abbrev iD:=@Array.replicate_zero
abbrev iE:=@Array.replicate_succ
abbrev iF:=@List.append_toArray
abbrev iH:=@Go.wp_region_lit
abbrev iI:=@Go.run_makeSlice
abbrev gY:=@Bool.not_true
abbrev iJ:=@Go.grownCap_le_maxLen
abbrev iK:=@List.find?_eq_none
abbrev iL:=@List.filter_append
abbrev iM:=@List.findIdx?_eq_some_iff_getElem
abbrev iN:=@Go.wpList_plain
abbrev hY:=@or_false
abbrev iO:=@Nat.sub_self
abbrev iP:=@List.push_toArray
abbrev iQ:=@List.all_eq_false
abbrev iR:=@Go.Lib.nDigits_small
abbrev iS:=@Array.size_append
abbrev iU:=@Array.getElem?_setIfInBounds_ne
abbrev iV:=@Go.getD_both
abbrev iX:=@exists_eq_or_imp
abbrev iZ:=@Nat.lt_of_not_le
abbrev jA:=@List.not_mem_nil
abbrev jB:=@List.length_pos_iff_exists_mem
abbrev hD:=@List.flatMap_def
abbrev jC:=@Classical.skolem
abbrev jD:=@Go.setRow_heap
abbrev jF:=@List.take_append_of_le_length
abbrev jG:=@List.getLast?_eq_some_getLast
abbrev jH:=@List.dropLast_concat_getLast
abbrev jI:=@List.all_append
abbrev jJ:=@Go.DataW.trod_bool
abbrev jK:=@Go.wpList_nil
abbrev jM:=@Go.size_zeroCells
abbrev jN:=@Go.growslice_fits
abbrev iB:=@List.foldl_nil
abbrev jO:=@List.drop_left
abbrev jP:=@Go.DataW.trod_int
abbrev jQ:=@Array.toList_setIfInBounds
abbrev jR:=@List.mem_of_find?_eq_some
abbrev jS:=@List.getElem?_eq_none_iff
abbrev jT:=@List.findIdx?_eq_none_iff
abbrev gU:=@List.extract_eq_take_drop
abbrev jU:=@ByteArray.getElem_extract
abbrev jV:=@List.getElem_append_left
abbrev jW:=@List.cons.inj
abbrev jX:=@Array.setIfInBounds_comm
abbrev iW:=@false_and
abbrev jZ:=@decide_false
abbrev kA:=@List.length_eq_one_iff
abbrev kB:=@List.findIdx_eq_length
abbrev kC:=@List.find?_cons_of_neg
abbrev kE:=@List.drop_of_length_le
abbrev kG:=@Array.getElem?_eq_none
abbrev kH:=@Array.getElem?_modify
abbrev kI:=@or_assoc
abbrev kK:=@Go.grownCap_ge
abbrev gH:=@Go.getD_replicate_false
abbrev kL:=@and_true
abbrev kM:=@Go.Region.waitsFor_spec
abbrev hZ:=@Go.Region.noSelect_spec
abbrev jE:=@Nat.sub_sub
abbrev kN:=@Nat.pow_mul
abbrev kO:=@Nat.pow_le_pow_right
abbrev kQ:=@List.pairwise_append
abbrev kR:=@BitVec.ofInt_natCast
abbrev kS:=@Array.toList_extract
abbrev kT:=@Go.run_bytes_of_string
abbrev iG:=@Array.toList_append
abbrev kV:=@Array.getElem?_push
theorem Aa{p:Prop}(h:p):Hid p:=h
abbrev P0(b:Nat):aI:=.pointer (some ⟨b,0,none⟩)
abbrev S0(b n c:Nat):aI:=.slice (some ⟨b,0,none⟩) n c
abbrev I0(x:Int):aI:=.int .i64 x
abbrev A0(b j:Nat):Addr:=⟨b,j,none⟩
abbrev q_(w:aE) (b j:Nat) (v:aI):Prop:=w.cell? (A0 b j)=some v
abbrev X_0(a:Int) (b:Int) (c:Nat) (d:Nat) (e:Nat) (f:Nat) (g:Int):Array aI:=#[I0 a,I0 b,S0 c d e,S0 f 8 8,I0 g]
abbrev X_1(a:Int) (b:Int) (c:aM Addr):Array aI:=#[I0 a,I0 b,.pointer c]
abbrev X_2  : Array aI:=#[I0 0,I0 0,.slice none 0 0,.slice none 0 0,I0 0]
abbrev X_3(a:Int) (b:Int) (c:Nat):Array aI:=#[I0 a,I0 b,P0 c]
abbrev X_4(a:Int) (b:Int) (c:Int) (d:Int) (e:Int) (f:Int) (g:Int) (h:Int):Array aI:=#[.int .u8 a,I0 b,I0 c,I0 d,I0 e,I0 f,I0 g,I0 h,I0 0]
abbrev X_5(a:Array aI) (b:aA):Array aI:=#[.agg a,.string b,.bool false]
abbrev X_6(a:Array aI) (b:aA) (c:Bool):Array aI:=#[.agg a,.string b,.bool c]
abbrev X_7(a:Int):Array aI:=#[I0 0,I0 a,.pointer none]
abbrev X_8(a:Int) (b:Int) (c:Int) (d:Int) (e:Int) (f:Int) (g:Int):Array aI:=#[.int .u8 82,I0 a,I0 b,I0 c,I0 d,I0 e,I0 f,I0 g,I0 0]
abbrev X_9(a:Int) (b:aA) (c:Nat):Array aI:=#[I0 5,.int .u32 a,.string b,S0 c 1 1]
abbrev X_10(a:Int) (b:Int) (c:Int) (d:Int) (e:Int) (f:Int) (g:Int):Array aI:=#[.int .u8 39,I0 a,I0 b,I0 c,I0 d,I0 e,I0 f,I0 g,I0 0]
abbrev X_11(a:Int) (b:Int) (c:aA) (d:aI):Array aI:=#[I0 a,.int .u32 b,.string c,d]
abbrev X_12  : Array aI:=#[.pointer none,.slice none 0 0]
abbrev X_13  : Array aI:=#[I0 0,I0 0,.pointer none]
abbrev X_14(a:Int) (b:Int) (c:Int) (d:Int) (e:Int) (f:Int) (g:Int):Array aI:=#[.int .u8 a,I0 b,I0 c,I0 d,I0 e,I0 f,I0 0,I0 g,I0 0]
abbrev X_15(a:Int) (b:Int) (c:Int) (d:Int) (e:Int) (f:Int) (g:Int):Array aI:=#[.int .u8 64,I0 a,I0 b,I0 c,I0 d,I0 e,I0 f,I0 g,I0 0]
abbrev X_16(a:Int) (b:Int) (c:Int) (d:Int) (e:Int) (f:Int) (g:Int):Array aI:=#[.int .u8 119,I0 a,I0 b,I0 c,I0 d,I0 e,I0 f,I0 g,I0 0]
abbrev X_17(a:Int) (b:Int) (c:Int):Array aI:=#[I0 a,I0 b,I0 0,I0 0,I0 0,.int .u8 0,I0 c,.bool false,.slice none 0 0]
abbrev X_18(a:Int) (b:Int) (c:Int) (d:Int) (e:Int) (f:Int) (g:Int):Array aI:=#[.int .u8 114,I0 a,I0 b,I0 c,I0 d,I0 e,I0 f,I0 g,I0 0]
abbrev X_19  : Array aI:=#[I0 0,I0 0,.nilFunc,I0 0,I0 0,.nilFunc,I0 0,I0 0,.nilFunc,I0 0,I0 0,.nilFunc,I0 0,I0 0,.nilFunc,I0 0,I0 0,.nilFunc,I0 0,I0 0,.nilFunc,I0 0,I0 0,.nilFunc]
abbrev X_20  : Array aI:=#[I0 (-1),I0 (-1),I0 (-1),I0 (-1),I0 (-1),I0 (-1),I0 (-1),I0 (-1)]
abbrev X_21  : Array aI:=#[.int .u32 0,I0 0,.int .u32 0,I0 0,.int .u32 0,I0 0,.int .u32 0,I0 0,.int .u32 0,I0 0,.int .u32 0,I0 0,.int .u32 0,I0 0,.int .u32 0,I0 0]
theorem kX(h:p:=by omega):p:=h
theorem kY(h:p:=by simp):p:=h
theorem kZ(h:p:=by kernel_rfl):p:=h
theorem lA(h:p:=by simp;omega):p:=h
theorem lB(h:p:=by simp only;omega):p:=h
theorem lC(h:p:=by decide):p:=h
theorem lE(h:p:=by rfl):p:=h
theorem lD(h:p:=by unfold maxLen;omega):p:=h
theorem lG(h:p:=by rw[cV];omega):p:=h
theorem lI(h:p:=by rw[dD];omega):p:=h
theorem lJ(h:p:=by simp only[aX];omega):p:=h
theorem lK(h:p:=by rw[eU];omega):p:=h
theorem lM(h:p:=by first|omega|(simp<;>omega)):p:=h
theorem lP(h:p:=by simp only[bX,cU];omega):p:=h
theorem lS(h:p:=by simp only[AB];omega):p:=h
theorem lH(h:p:=by first|rfl|trivial):p:=h
theorem lO(h:p:=by rw[Cj.wd];omega):p:=h
theorem lL(h:p:=by simp[go_sem]):p:=h
theorem lF(h:p:=by simp[maxLen,ByteArray.size]):p:=h
theorem lQ(h:p:=by unfold FJ;omega):p:=h
theorem lR(h:p:=by rw[D5];omega):p:=h
theorem lN(h:p:=by trivial):p:=h
def bt(s:aA)(i:Nat):Int:=if h:i<s.size then(s[i].toNat:Int)else 0
theorem Eh(s i):0<=bt s i:=by unfold bt;split<;>omega
theorem FT(s i):bt s i<=255:=by
 unfold bt;split;rename_i a;have:=s[i].toNat_lt;omega;omega
theorem Cs(s i)(a:i<s.size):bt s i=(s[i].toNat:Int):=by unfold bt;rw[dif_pos a]
theorem DM(s i)(a:¬ i<s.size):bt s i=0:=by unfold bt;rw[dif_neg a]
def C4(c a b:Int):Int:=if c<a\/b<c then -1 else c-a
def AY(l:aD UInt8)(c:Int):Bool:=l.any fun a=>(a.toNat:Int)==c
def AG(c:Int):Int:=if 48<=c/\c<=57 then c-48 else if 97<=c/\c<=102 then c-87 else -1
theorem DU{e:IntKind}{a b}(f:a=b):Ending.returned (.int e a)=.returned (.int e b):=by rw[f]
theorem BI{a b}(e:a=b):Ending.returned (.bool a)=.returned (.bool b):=by rw[e]
theorem Ot(s:aA)(c:Int)(a:Nat)(b:a<s.size):
 AY (s.data.toList.take (a+1)) c=(AY (s.data.toList.take a) c||((s[a].toNat:Int)==c)):=by
 rw[bN (by simpa using b)];simp[AY,List.any_append];rfl
structure It where
 c:Int:=0
 w:Int:=0
 b:Int:=0
 r:Int:=0
 d:Int:=0
 pl:Int:=0
 nx:Int:=0
 rl:Int:=0
def kW(c:Int):Bool:=AY [110,108,104,107] c
def kD(c:Int):Bool:=AY [104,107,114,116,119,64,115] c
def CP(c:Int):Bool:=AY [110,108,40,47,42,104,107,114,116,119,64,115,46] c
def Jg(c:Int):Int:=if c=40 then -1 else if c=47 then 2 else if AY [42,116,119,64,115] c then 1 else 0
structure Hd where
 ok:Bool
 i:Nat
 inn:Int:=0
 it:It:={}
def Br(s:aA)(c:Int)(i:Nat)(it:It):Hd:=
 if kD c then
  if 97<=bt s i/\bt s i<=104 then{ok:=true,i:=i+1,inn:=Jg c,it:={it with d:=bt s i-97,pl:=i}}else{ok:=false,i:=i}
 else{ok:=true,i:=i,inn:=Jg c,it:=it}
def Ak(s:aA)(a:Nat):Hd:=
 if 65<=bt s a/\bt s a<=72 then{ok:=true,i:=a+1,it:={c:=82,r:=bt s a-65,pl:=a}}
 else if bt s a=39 then
  if AG (bt s (a+1))<0 then{ok:=false,i:=a+1}
  else if AG (bt s (a+2))<0 then{ok:=false,i:=a+2}
  else{ok:=true,i:=a+3,it:={c:=39,b:=16*AG (bt s (a+1))+AG (bt s (a+2)),pl:=a}}
 else if CP (bt s a)then
  if kW (bt s a)then
   if 49<=bt s (a+1)/\bt s (a+1)<=52 then Br s (bt s a) (a+2) {c:=bt s a,w:=bt s (a+1)-48,pl:=a}else{ok:=false,i:=a+1}
  else Br s (bt s a) (a+1) {c:=bt s a,pl:=a}
 else{ok:=false,i:=a}
theorem FY(c) : -1<=AG c/\AG c<=15:=by unfold AG;split<;>(try split)<;>omega
theorem Fc(c a b)(e:¬ (a<=c/\c<=b)):C4 c a b = -1:=by unfold C4;rw[aF kX]
theorem Da(c a b)(e:a<=c/\c<=b):C4 c a b=c-a:=by unfold C4;rw[aC kX]
theorem XN(h:p:=by
 simp only[CP,AY,cQ,dG,cN,cH,dA]at h;rcases h with h|h|h|h|h|h|h|h|h|h|h|h|h<;>simp at h<;>omega):p:=h
theorem j0(h:p:=by
 obtain⟨bx,b1,bh⟩:=am (j a).i cb;refine⟨bx,by simp only[C3.pre];omega,fun h=>?_⟩;have:=bh h;simp only[C3.pre,aR];omega):p:=h
theorem Jp(h:p:=by
 exact⟨by simp,by simp;omega,rfl,fun h=>by simp⟩):p:=h
structure C3 where
 ok:Bool
 i:Nat
 As:aD It
def C3.pre(l:aD It)(q:C3):C3:=⟨q.ok,q.i,l++q.As⟩
def loopN(a:Nat->C3):Nat->Nat->C3
 | 0,i=>⟨true,i,[]⟩
 | k+1,i=>if(a i).ok=true then(loopN a k (a i).i).pre (a i).As else⟨false,(a i).i,[]⟩
def Bp(a:Nat->C3)(s:aA):Nat->Nat->C3
 | 0,i=>⟨false,i,[]⟩
 | f+1,i=>if(a i).ok=true then(if bt s (a i).i=41 then⟨true,(a i).i+1,(a i).As⟩else(Bp a s f (a i).i).pre (a i).As)else⟨false,(a i).i,[]⟩
def inner(b:Nat->C3)(s:aA)(e:Nat)(a:Hd):C3:=if a.inn<0 then Bp b s e a.i else loopN b a.inn.toNat a.i
def AF(s:aA)(b:Int):Nat->Nat->C3
 | 0,a=>⟨false,a,[]⟩
 | f+1,a=>
  if(Ak s a).ok=true then
   ⟨(inner (AF s b f) s f (Ak s a)).ok,(inner (AF s b f) s f (Ak s a)).i,
    {(Ak s a).it with rl:=b,nx:=1+(inner (AF s b f) s f (Ak s a)).As.length}::(inner (AF s b f) s f (Ak s a)).As⟩
  else⟨false,(Ak s a).i,[]⟩
theorem AT(s i)(b:0<bt s i):i<s.size:=by
 by_cases a:i<s.size;exact a;rw[DM _ _ a]at b;omega
theorem Yt(c)(h:CP c=true):0<c:=by
 exact XN
theorem Sl(c)(a:0<=AG c):0<c:=by unfold AG at a;split at a<;>(try split at a)<;>omega
theorem RI(s c i a)(e:i<=s.size):
 i<=(Br s c i a).i/\(Br s c i a).i<=s.size/\(a.nx=0->(Br s c i a).it.nx=0):=by
 unfold Br;split;split;have:=AT s i kX;exact⟨by simp,by simp;omega,fun b=>b⟩;exact⟨by simp,by simpa using e,fun _=>rfl⟩;exact⟨by simp,by simpa using e,fun b=>b⟩
theorem Adz(c) : -1<=Jg c/\Jg c<=2:=by unfold Jg;split<;>(try split)<;>(try split)<;>omega
theorem VS(s c i a) : -1<=(Br s c i a).inn/\(Br s c i a).inn<=2:=by
 unfold Br;have:=Adz c;split;split;exact this;exact(by decide:(-1:Int)<=0/\(0:Int)<=2);exact this
theorem Xf(s a) : -1<=(Ak s a).inn/\(Ak s a).inn<=2:=by
 unfold Ak;repeat' split
 all_goals first|exact VS _ _ _ _|exact(by decide:(-1:Int)<=0/\(0:Int)<=2)
theorem NX(s a)(e:a<=s.size):
 a<=(Ak s a).i/\(Ak s a).i<=s.size/\(Ak s a).it.nx=0/\((Ak s a).ok=true->a<(Ak s a).i):=by
 unfold Ak;split;have:=AT s a kX;refine⟨by simp,by simp;omega,rfl,fun _=>by simp⟩;split;rename_i o;have h0:=AT s a kX;split;exact Jp;rename_i b;have g:=AT s (a+1) (Sl _ kX);split;exact Jp;rename_i j;have k:=AT s (a+2) (Sl _ kX);exact Jp;split;rename_i f;have h0:=AT s a (Yt _ f);split;split;have b:=AT s (a+1) kX;have:=RI s (bt s a) (a+2) {c:=bt s a,w:=bt s (a+1)-48,pl:=a} kX;exact⟨by omega,this.2.1,this.2.2 rfl,fun _=>by omega⟩;exact Jp;have:=RI s (bt s a) (a+1) {c:=bt s a,pl:=a} kX;exact⟨by omega,this.2.1,this.2.2 rfl,fun _=>by omega⟩;exact⟨by simp,by simpa using e,rfl,fun h=>by cases h⟩
def Good(s:aA)(b:Nat->C3):Prop:=
 ∀ a,a<=s.size->(b a).i<=s.size/\a<=(b a).i/\((b a).ok=true->a<(b a).i/\(b a).As.length<=(b a).i-a)
theorem Jw(s)(j:Nat->C3)(k:Good s j)(b):∀ a,a<=s.size->
 (loopN j b a).i<=s.size/\a<=(loopN j b a).i/\((loopN j b a).ok=true->(loopN j b a).As.length<=(loopN j b a).i-a):=by
 induction b with
 | zero=>intro a e;exact⟨e,aB _,fun _=>by simp[loopN]⟩
 | succ b am=>
  intro a e;obtain⟨cb,o,f⟩:=k a e;unfold loopN;split;rename_i g;obtain⟨f,p⟩:=f g;exact j0;exact⟨cb,o,fun h=>by cases h⟩
theorem JC(s)(j:Nat->C3)(k:Good s j)(b):∀ a,a<=s.size->
 (Bp j s b a).i<=s.size/\a<=(Bp j s b a).i/\((Bp j s b a).ok=true->(Bp j s b a).As.length<=(Bp j s b a).i-a):=by
 induction b with
 | zero=>intro a e;exact⟨e,aB _,fun h=>by cases h⟩
 | succ b am=>
  intro a e;obtain⟨cb,o,f⟩:=k a e;unfold Bp;split;rename_i g;obtain⟨f,r⟩:=f g;split;rename_i p;have:=AT s (j a).i kX;exact⟨by simp;omega,by simp;omega,fun _=>by simp;omega⟩;exact j0;exact⟨cb,o,fun h=>by cases h⟩
theorem BA(s e a):Good s (AF s e a):=by
 induction a with
 | zero=>intro b h;exact⟨h,aB _,fun f=>by cases f⟩
 | succ a k=>
  intro b h;obtain⟨r,g,_,j⟩:=NX s b h;unfold AF;split;rename_i v;have j:=j v;have u:(inner (AF s e a) s a (Ak s b)).i<=s.size/\(Ak s b).i<=(inner (AF s e a) s a (Ak s b)).i/\((inner (AF s e a) s a (Ak s b)).ok=true->(inner (AF s e a) s a (Ak s b)).As.length<=(inner (AF s e a) s a (Ak s b)).i-(Ak s b).i):=by
   unfold inner;split;exact JC s _ k _ _ g;exact Jw s _ k _ _ g
  obtain⟨o,x,p⟩:=u;refine⟨o,by simp only;omega,fun f=>⟨by simp only;omega,?_⟩⟩;have:=p f;simp only[aX];omega;exact⟨g,r,fun f=>by cases f⟩
def It.cells(a:It):Array aI:=(X_4 a.c a.w a.b a.r a.d a.pl a.nx a.rl)
def It.off(a:It)(b:Nat):It:={a with nx:=b+a.nx}
def cellsL:Nat->aD It->aD aI
 | _,[]=>[]
 | a,b::r=>(b.off a).cells.toList++cellsL (a+1) r
theorem I3(a l):(cellsL a l).length=l.length*9:=by
 induction l generalizing a with
 | nil=>rfl
 | cons f e b=>simp[cellsL,b,It.cells];omega
theorem GL(a l m):cellsL a (l++m)=cellsL a l++cellsL (a+l.length) m:=by
 induction l generalizing a with
 | nil=>simp[cellsL]
 | cons f b e=>
  simp only[cA,cellsL,e,bO,aX];rw[show a+1+b.length=a+(b.length+1)by omega]
theorem Jt(b l a q)(h:q<9):(cellsL b l)[a*9+q]? = (l[a]?).bind fun e=>(e.off (b+a)).cells[q]? := by
 induction l generalizing b a with
 | nil=>simp[cellsL]
 | cons e j g=>
  have f:(e.off b).cells.toList.length=9:=rfl
  cases a with
  | zero=>
   simp only[cellsL,hL,eC,aJ,Option.bind_some,Nat.add_zero];rw[aW kX];simp
  | succ a=>
   simp only[cellsL];rw[bG kX,f,show(a+1)*9+q-9=a*9+q by omega,g];simp only[aK,show b+1+a=b+(a+1)by omega]
theorem Kl{f:Type}(a b:aD f)(n:Nat)(e:f)(g:a.length<=n):(a++b).set n e=a++b.set (n-a.length) e:=by
 rw[List.set_append,aC kX]
theorem SO(l)(b:It)(a:aD It)(e:Int):
 (cellsL 0 (l++{b with nx := -(l.length:Int)}::a)).set (l.length*9+6) (I0 (l.length+e))=cellsL 0 (l++{b with nx:=e}::a):=by
 rw[GL,GL,Kl _ _ _ _ (by rw[I3];omega),I3];congr 1;rw[show l.length*9+6-l.length*9=6 by omega];simp[cellsL,It.cells,It.off]
def A1(a:aD It)(b:Nat):It:=a.getD b {}
def FJ(b:aD It)(a:Nat):Nat:=a+(A1 b a).nx.toNat
structure Wf (As:aD It):Prop where
 pos:∀ k,k<As.length->1<=(A1 As k).nx/\k+(A1 As k).nx<=As.length
 one:∀ k,k<As.length->AY [119,64,115] (A1 As k).c=true->k+1<As.length
 byte:∀ k,k<As.length->0<=(A1 As k).c/\(A1 As k).c<=255
def stepsV(a:aD It)(b:Nat):Nat->Nat->aD Nat
 | 0,_=>[]
 | f+1,i=>if i<b then i::stepsV a b f (FJ a i)else[]
def CM(a:aD It)(b:Nat):aD Nat:=stepsV a (FJ a b) a.length (b+1)
def AN(c:Int):Bool:=AY [114,116,119,64,115] c
def Ae(c:Int):Bool:=c==104||c==107
def BN(a:aD It):Nat->Nat->aD Nat
 | 0,_=>[]
 | f+1,i=>if AY [119,64,115] (A1 a i).c then(if AN (A1 a (i+1)).c then(i+1)::BN a f (i+1)else BN a f (i+1))else[]
def AR(a:aD It)(b:Nat):aD Nat:=(CM a b).flatMap fun i=>i::BN a a.length i
def Iu(a:aD It)(d:Int)(b:Bool)(i:Nat):Bool:=(A1 a i).d==d&&((b&&Ae (A1 a i).c)||(!b&&AN (A1 a i).c))
def Cg(b:aD It)(l:aD Nat)(d:Int)(a:Bool):Nat:=(l.filter (Iu b d a)).length
def F6(l:aD Nat)(a:Nat):Bool:=decide (a∈l)
def Bt(a:aD It)(b s:Nat):Bool:=
 (A1 a s).c==40&&decide (b<FJ a s)&&F6 (AR a s) b&&(!(Ae (A1 a b).c)||F6 (CM a s) b)
def verdict(a:aD It)(b s:Nat):Bool:=
 let l:=AR a s
 let e:=l.take (l.idxOf b)
 let d:=(A1 a b).d
 if Ae (A1 a b).c then(Cg a e d true==0)&&decide (0<Cg a l d false)
 else decide (0<Cg a e d true)&&(Cg a e d false==0)
def Bm(b:aD It)(a:Nat):Bool:=
 if !(Ae (A1 b a).c) && !(AN (A1 b a).c)then true
 else match(List.range a).find? (Bt b a)with
  | some s=>verdict b a s
  | none=>false
def worst(b:aD It)(e:Nat->Bool):Nat->Int->Int
 | 0,a=>a
 | n+1,a=>if e n&&(decide (worst b e n a<0)||decide ((A1 b n).pl<worst b e n a))then(A1 b n).pl else worst b e n a
theorem A3{b:Type}(l:aD b)(a:Nat)(d:b)(e:a<l.length):l.getD a d=l[a]:=by simp[List.getD,e]
def Ac(w:aE)(b:Nat)(a:Array aI)(t:TypeId):Prop:=w.heap[b]? = some (.cells a t (0,0))
theorem Ac.lt{w a b t}(e:Ac w a b t):a<w.heap.size:=(cW.1 e).1
theorem Ac.cell{w a b t}(e:Ac w a b t)(f):w.cell? (A0 a f)=b[f]? := by
 unfold Ac at e;simp[World.cell?,e]
theorem Ac.c0{w a t b l}(e:Ac w a (b::l).toArray t):w.cell? (A0 a 0)=some b:=e.cell 0
theorem Ac.c1{w a t f b l}(e:Ac w a (f::b::l).toArray t):w.cell? (A0 a 1)=some b:=e.cell 1
theorem Ac.c2{w a t f g b l}(e:Ac w a (f::g::b::l).toArray t):w.cell? (A0 a 2)=some b:=e.cell 2
theorem Ac.c3{w a t f g h b l}(e:Ac w a (f::g::h::b::l).toArray t):w.cell? (A0 a 3)=some b:=e.cell 3
theorem Ac.c4{w a t f g h j b l}(e:Ac w a (f::g::h::j::b::l).toArray t):w.cell? (A0 a 4)=some b:=e.cell 4
theorem Ac.c5{w a t f g h j k b l}(e:Ac w a (f::g::h::j::k::b::l).toArray t):w.cell? (A0 a 5)=some b:=e.cell 5
theorem Ac.c6{w a t f g h j k o b l}(e:Ac w a (f::g::h::j::k::o::b::l).toArray t):w.cell? (A0 a 6)=some b:=e.cell 6
theorem Ac.c7{w a t f g h j k o p b l}(e:Ac w a (f::g::h::j::k::o::p::b::l).toArray t):w.cell? (A0 a 7)=some b:=e.cell 7
theorem Ac.c8{w a t f g h j k o p r b l}(e:Ac w a (f::g::h::j::k::o::p::r::b::l).toArray t):w.cell? (A0 a 8)=some b:=e.cell 8
theorem Ac.frozen{w a e t}(b:Ac w a e t)(f):w.frozen? (A0 a f)=false:=by
 unfold Ac at b;simp[World.frozen?,b]
theorem Ac.drew{w a b t}(e:Ac w a b t):Ac w.drew a b t:=e
theorem Ac.alloc{w b cs t}(a:Ac w b cs t)(e):Ac (w.alloc e) b cs t:=by
 have:=a.lt;unfold Ac at*;rw[bC _ _ _ this];exact a
theorem Ac.new(w:aE)(a:Array aI)(t:TypeId):Ac (w.alloc (.cells a t)) w.heap.size a t:=cJ w _
theorem Ac.below{w w' b a e t}(f:Ac w a e t)(g:Below b w w')(h:a<b):Ac w' a e t:=by
 unfold Ac at*;rw[g.block a h];exact f
theorem Ac.grown{w w' f a b t}(e:Ac w a b t)(g:w.grownBy w' f)(h:some a≠f):Ac w' a b t:=by
 have:=e.lt;unfold Ac at*;rw[g.block a this h];exact e
theorem Ac.set{w a b t}(g:Ac w a b t)(e f):Ac (w.setCell (A0 a e) f) a (b.setIfInBounds e f) t:=by
 unfold Ac at*;simp[World.setCell,kH,g]
theorem Ac.Ad{w b e t}(f:Ac w b e t)(a)(g:b≠a.block)(h):Ac (w.setCell a h) b e t:=by
 unfold Ac at*;rw[aN _ _ _ _ g];exact f
structure Fr (B g:Nat) (w w':aE):Prop where
 os:w'.os=w.os
 tape:w'.tape=w.tape
 output:w'.output=w.output
 size:w.heap.size<=w'.heap.size
 block:∀ k,k<B->k≠g->w'.heap[k]? = w.heap[k]?
theorem Fr.refl(a b w):Fr a b w w:=⟨rfl,rfl,rfl,aB _,fun _ _ _=>rfl⟩
theorem Fr.trans{e g f b c}(h:Fr e g f b)(a:Fr e g b c):Fr e g f c:=
 ⟨a.os.trans h.os,a.tape.trans h.tape,a.output.trans h.output,bQ h.size a.size,fun i j k=>(a.block i j k).trans (h.block i j k)⟩
theorem Fr.below{b g C e f c}(h:Fr b g e f)(a:Below C f c)(j:b<=C):Fr b g e c:=
 h.trans ⟨a.os,a.tape,a.output,a.size,fun i k _=>a.block i kX⟩
theorem Fr.alloc{B e a b}(g:Fr B e a b)(h:B<=b.heap.size)(f):Fr B e a (b.alloc f):=
 g.below ((aO _ _).alloc h f) (aB _)
theorem Fr.drew{b g e f}(a:Fr b g e f):Fr b g e f.drew:=⟨a.os,a.tape,a.output,a.size,a.block⟩
theorem Fr.drewN{b g e f}(a:Fr b g e f)(n):Fr b g e (f.drewN n):=⟨a.os,a.tape,a.output,a.size,a.block⟩
theorem Fr.setCell{a e f b}(g:Fr a e f b){p}(o:p.block=e\/a<=p.block)(h):Fr a e f (b.setCell p h):=
 g.trans ⟨rfl,rfl,rfl,by simp[World.setCell],fun r j k=>aN _ _ _ _ kX⟩
theorem Fr.grown{e h g f c j}(o:Fr e h g f)(a:f.grownBy c j)(r:e<=f.heap.size)(p:∀ b,j=some b->e<=b):Fr e h g c:=
 o.trans ⟨a.os,a.tape,a.output,a.size,fun b u _=>a.block b kX (fun k=>by have:=p b k.symm;omega)⟩
theorem ii(h:p:=by
 have e:((i:Int)==(s.size:Int))=decide (i=s.size):=by
  by_cases h:i=s.size;rw[bF h];simp;omega;rw[bJ h];simp;omega
 rw[<- e];rfl):p:=h
theorem n9(h:p:=by
 rintro e w1⟨rfl,y,a⟩;rw[bF ab];simp only;go_wp2;go_ret2;exact⟨y,Or.inr ⟨bj.out,rfl,a⟩⟩):p:=h
abbrev ku(h:PLift q->p:=by
 intro aa;rintro e w1⟨rfl,y,a⟩;rw[bJ (by omega:¬ i=s.size)];simp only;have ad:=a.c0;have ak:=a.c1;revert w1 y a ad ak;exact aa.1):p:=h ⟨z⟩
def Rd(w:aE)(a:Nat)(s:aA)(i:Nat):Prop:=Ac w a #[.string s,I0 i] 72
structure Df (rb:Nat) (w w':aE):Prop where
 os:w'.os=w.os
 tape:w'.tape=w.tape
 output:w'.output=w.output
 size:w'.heap.size=w.heap.size
 block:∀ k,k≠rb->w'.heap[k]? = w.heap[k]?
theorem Df.refl(a w):Df a w w:=⟨rfl,rfl,rfl,rfl,fun _ _=>rfl⟩
theorem Df.drewN(rb w n):Df rb w (w.drewN n):=⟨rfl,rfl,rfl,rfl,fun _ _=>rfl⟩
theorem Df.trans{e f b c}(h:Df e f b)(a:Df e b c):Df e f c:=⟨a.os.trans h.os,a.tape.trans h.tape,a.output.trans h.output,a.size.trans h.size,fun i g=>(a.block i g).trans (h.block i g)⟩
theorem Df.setCell{a e b}(f:Df a e b)(h j):Df a e (b.setCell (A0 a h) j):=
 f.trans ⟨rfl,rfl,rfl,by simp[World.setCell],fun k g=>aN _ _ _ _ g⟩
theorem Df.fr{rb w w'}(a:Df rb w w')(B):Fr B rb w w':=⟨a.os,a.tape,a.output,by rw[a.size];omega,fun e _ b=>a.block e b⟩
theorem Ac.same{e w w' a b t}(f:Ac w a b t)(h:Df e w w')(g:a≠e):Ac w' a b t:=by
 unfold Ac at*;rw[h.block a g];exact f
theorem Rd.drewN{w rb s i}(a:Rd w rb s i)(n):Rd (w.drewN n) rb s i:=a
theorem ET(w b s i)(a:Rd w b s i)(_hs:s.size<=400)(_hi:i<=s.size):
 Calls prog 49 #[P0 b] w fun e w'=>e=.returned (.bool (decide (i=s.size)))/\Df b w w'/\Rd w' b s i:=by
 have g:=a.c0;have j:=a.c1;have f:=a;have f:=Aa a;go_enter func49,ntmps49;go_wp2_with fail;go_quiet (fail);go_wp2;go_ret;refine⟨?_,Df.drewN _ _ _,f.o.drewN _⟩;exact ii
def Ay(s:aA)(i:Nat)(a b:Int):Bool:=decide (a<=bt s i/\bt s i<=b)
def Yq(s:aA)(i:Nat)(b e:Int)(a:Nat)(w:aE)(f:Ending)(w':aE):Prop:=
 Df a w w'/\((Ay s i b e=true/\f=.returned (.tuple #[.int .u8 (bt s i),.bool true])/\Rd w' a s (i+1))\/
  (Ay s i b e=false/\f=.returned (.tuple #[.int .u8 0,.bool false])/\Rd w' a s i))
theorem Fh(w h s i b g)(x:Rd w h s i)(v:s.size<=400)(u:i<=s.size)(J:1<=b):
 Calls prog 97 #[P0 h,.int .u8 b,.int .u8 g] w fun e w'=>Yq s i b g h w e w':=by
 by_cases B:i=s.size
 . have bj:=Aa (show Ay s i b g=false by
    unfold Ay;rw[DM s i kX];simp;omega)
   have k:=Aa x;have ab:=Hid.o (p:=i=s.size) B;go_enter func97,ntmps97;go_wp2_with fail;refine(ET w h s i k.o v u).mono ?_;exact n9
 have E:i<s.size:=kX;have K:(i:Int)<(s.size:Int):=kX;have k:=Aa x;have r:=Aa (Cs s i E)
 cases f:Ay s i b g
 . have F:(s[i].toNat:Int)<b\/(¬ (s[i].toNat:Int)<b/\g<(s[i].toNat:Int)):=by
    unfold Ay at f;rw[r.out]at f;simp at f;by_cases j:(s[i].toNat:Int)<b;exact Or.inl j;exact Or.inr ⟨j,f kX⟩
   have o:=Aa f;rcases F with j|⟨j,z⟩;all_goals
    go_enter func97,ntmps97;go_wp2_with fail;refine(ET w h s i k.o v u).mono ?_;refine ku ?_;intro w1 y a ad ak;have p:=Aa a;go_wp2_with fail;go_quiet (fail);go_wp2;go_ret2;exact⟨y.trans (Df.drewN _ _ _),Or.inr ⟨o.o,rfl,p.o.drewN _⟩⟩
 have A:¬ (s[i].toNat:Int)<b/\¬ g<(s[i].toNat:Int):=by
  unfold Ay at f;rw[r.out]at f;simp at f;omega
 obtain⟨j,z⟩:=A;have o:=Aa f;go_enter func97,ntmps97;go_wp2_with fail;refine(ET w h s i k.o v u).mono ?_;refine ku ?_;intro w1 y a ad ak;have I:=a.frozen 1;have p:=Aa a;go_wp2_with fail;go_quiet (fail);go_wp2;go_ret2;refine⟨(y.trans (Df.drewN _ _ _)).setCell _ _,Or.inl ⟨o.o,?_,?_⟩⟩;rw[r.out];rfl;exact(p.o.drewN _).set 1 _
def YW(s:aA)(i:Nat)(a:Int):Nat:=if bt s i=a then i+1 else i
def Mb(s:aA)(i:Nat)(a:Int):Bool:=decide (bt s i=a)
theorem Gw(w f s i a)(u:Rd w f s i)(v:s.size<=400)(r:i<=s.size)(p:1<=a):
 Calls prog 59 #[P0 f,.int .u8 a] w fun j w'=>Df f w w'/\j=.returned (.bool (Mb s i a))/\Rd w' f s (YW s i a):=by
 have o:=Aa u;go_enter func59,ntmps59;go_wp2_with fail;refine(Fh w f s i a a o.o v r p).mono ?_;rintro j w1⟨k,⟨e,rfl,g⟩|⟨e,rfl,g⟩⟩
 . have h:bt s i=a:=by unfold Ay at e;simp at e;omega
   have b:=Aa h;simp only;go_wp2;go_ret;exact⟨k,by rw[Mb,bF b.o];rfl,by rw[YW,aF b.o];exact g⟩
 have h:¬ bt s i=a:=by unfold Ay at e;simp at e;omega
 have b:=Aa h;simp only;go_wp2;go_ret;exact⟨k,by rw[Mb,bJ b.o];rfl,by rw[YW,aC b.o];exact g⟩
structure Pt where
 k:Int
 pl:Int
 wd:Int:=0
 dp:Int:=0
 EZ:Int:=0
 vl:Int:=0
 ru:Int:=0
 sl:Bool:=false
 v:aI:=.slice none 0 0
def Am(w:aE)(b:Nat)(a:Pt):Prop:=Ac w b #[I0 a.k,I0 a.pl,I0 a.wd,I0 a.dp,I0 a.EZ,.int .u8 a.vl,I0 a.ru,.bool a.sl,a.v] 185
structure DG (rb pb:Nat) (w w':aE):Prop where
 os:w'.os=w.os
 tape:w'.tape=w.tape
 output:w'.output=w.output
 size:w'.heap.size=w.heap.size
 block:∀ k,k≠rb->k≠pb->w'.heap[k]? = w.heap[k]?
theorem DG.refl(b a w):DG b a w w:=⟨rfl,rfl,rfl,rfl,fun _ _ _=>rfl⟩
theorem DG.trans{f e g b c}(h:DG f e g b)(a:DG f e b c):DG f e g c:=⟨a.os.trans h.os,a.tape.trans h.tape,a.output.trans h.output,a.size.trans h.size,fun i j k=>(a.block i j k).trans (h.block i j k)⟩
theorem Df.two{b w w'}(a:Df b w w')(g):DG b g w w':=⟨a.os,a.tape,a.output,a.size,fun f e _=>a.block f e⟩
theorem DG.setCell{f a e b}(g:DG f a e b)(j k):DG f a e (b.setCell (A0 a j) k):=
 g.trans ⟨rfl,rfl,rfl,by simp[World.setCell],fun o _ h=>aN _ _ _ _ h⟩
theorem DG.drewN{rb f b e}(a:DG rb f b e)(n):DG rb f b (e.drewN n):=⟨a.os,a.tape,a.output,a.size,a.block⟩
theorem Rd.other{w b s i}(f:Rd w b s i)(a)(g:b≠a.block)(e):Rd (w.setCell a e) b s i:=Ac.Ad f a g e
theorem Am.same{e w w' a b}(f:Am w a b)(h:Df e w w')(g:a≠e):Am w' a b:=Ac.same f h g
theorem Am.wd{w a b}(f:Am w a b)(e):Am (w.setCell (A0 a 2) (I0 e)) a {b with wd:=e}:=Ac.set f 2 _
theorem Am.dp{w a b}(f:Am w a b)(e):Am (w.setCell (A0 a 3) (I0 e)) a {b with dp:=e}:=Ac.set f 3 _
theorem Am.EZ{w a b}(f:Am w a b)(e):Am (w.setCell (A0 a 4) (I0 e)) a {b with EZ:=e}:=Ac.set f 4 _
theorem Am.vl{w a b}(f:Am w a b)(e):Am (w.setCell (A0 a 5) (.int .u8 e)) a {b with vl:=e}:=Ac.set f 5 _
theorem Am.ru{w a b}(f:Am w a b)(e):Am (w.setCell (A0 a 6) (I0 e)) a {b with ru:=e}:=Ac.set f 6 _
theorem Am.pv{w a b}(f:Am w a b)(e):Am (w.setCell (A0 a 8) e) a {b with v:=e}:=Ac.set f 8 _
theorem Am.sl{w a b}(e:Am w a b)(x):Am (w.setCell (A0 a 7) (.bool x)) a {b with sl:=x}:=Ac.set e 7 _
def CX(a:Bool)(i:Nat):Nat:=cond a (i+1) i
def Ni(s:aA)(g f:Nat)(w:aE)(b:Bool)(i:Nat)(e:Pt)(h:Ending)(w':aE):Prop:=
 h=.returned (.bool b)/\DG g f w w'/\Rd w' g s i/\∃ a,Am w' f a/\a.v=e.v/\(b=true->a=e)
theorem LJ(w f b s i u)(F:Rd w f s i)(E:Am w b u)(g:b≠f)(I:s.size<=400)(B:i<=s.size):
 Calls prog 194 #[P0 f,P0 b] w fun r w'=>
  Ni s f b w (Ay s i 49 52) (CX (Ay s i 49 52) i) {u with wd:=bt s i-48} r w':=by
 have v:=Aa F;have p:=Aa E;go_enter func194,ntmps194;go_wp2_with fail;refine(Fh w f s i 49 52 v.o I B kX).mono ?_;rintro r w1⟨h,⟨e,rfl,o⟩|⟨e,rfl,o⟩⟩
 . have a:=p.o.same h g;have x:=a.c2;have y:=a.frozen 2;have A:49<=bt s i/\bt s i<=52:=by unfold Ay at e;simpa using e
   obtain⟨J,K⟩:=A;have j:=Aa e;have k:=Aa a;simp only;go_wp2;go_ret;rw[j.o];exact⟨rfl,(h.two b).setCell _ _,Rd.other o _ (fB g) _,_,k.o.wd _,rfl,fun _=>rfl⟩
 have a:=p.o.same h g;have x:=a.c2;have y:=a.frozen 2;have j:=Aa e;have k:=Aa a;simp only;go_wp2;go_ret;rw[j.o];exact⟨rfl,(h.two b).setCell _ _,Rd.other o _ (fB g) _,_,k.o.wd _,rfl,fun z=>by cases z⟩
theorem Hf(w e a s i h)(x:Rd w e s i)(r:Am w a h)(g:a≠e)(L:s.size<=400)(K:i<=s.size):
 Calls prog 195 #[P0 e,P0 a] w fun v w'=>
  Ni s e a w (Ay s i 97 104) (CX (Ay s i 97 104) i) {h with EZ:=i,dp:=bt s i-97} v w':=by
 have O:=x.c1;have S:=r.c4;have U:=r.frozen 4;have A:=Aa x;have z:=Aa r;go_enter func195,ntmps195;go_wp2_with fail;have B:Hid (Rd (w.setCell (A0 a 4) (I0 i)) e s i):=Rd.other A.o _ (fB g) _;have u:Hid (Am (w.setCell (A0 a 4) (I0 i)) a {h with EZ:=i}):=z.o.EZ _;have y:DG e a w (w.setCell (A0 a 4) (I0 i)):=(DG.refl _ _ _).setCell _ _;generalize w.setCell (A0 a 4) (I0 i)=M at*;refine(Fh M e s i 97 104 B.o L K kX).mono ?_;rintro v w1⟨j,⟨f,rfl,p⟩|⟨f,rfl,p⟩⟩
 . have b:=u.o.same j g;have E:q_ w1 a 3 (I0 h.dp):=b.cell 3;have F:=b.frozen 3;have J:97<=bt s i/\bt s i<=104:=by unfold Ay at f;simpa using f
   obtain⟨V,X⟩:=J;have k:=Aa f;have o:=Aa b;simp only;go_wp2;go_ret;rw[k.o];exact⟨rfl,(y.trans (j.two a)).setCell _ _,Rd.other p _ (fB g) _,_,o.o.dp _,rfl,fun _=>rfl⟩
 have b:=u.o.same j g;have E:q_ w1 a 3 (I0 h.dp):=b.cell 3;have F:=b.frozen 3;have k:=Aa f;have o:=Aa b;simp only;go_wp2;go_ret;rw[k.o];exact⟨rfl,(y.trans (j.two a)).setCell _ _,Rd.other p _ (fB g) _,_,o.o.dp _,rfl,fun I=>by cases I⟩
def K7(s:aA)(i:Nat):Nat:=if AG (bt s i)<0 then i else i+1
def CJ(s:aA)(i:Nat):Bool:=decide (0<=AG (bt s i))
theorem LR(w b s i)(F:Rd w b s i)(y:s.size<=400)(x:i<=s.size):
 Calls prog 177 #[P0 b] w fun o w'=>∃ A,o=.returned (.tuple #[.int .u8 A,.bool (CJ s i)])/\Df b w w'/\Rd w' b s (K7 s i)/\(CJ s i=true->A=AG (bt s i)):=by
 have B:=Aa F;go_enter func177,ntmps177;go_wp2_with fail;refine(Fh w b s i 48 57 B.o y x kX).mono ?_;rintro o w1⟨u,⟨g,rfl,p⟩|⟨g,rfl,p⟩⟩
 . have k:48<=bt s i/\bt s i<=57:=by unfold Ay at g;simpa using g
   have a:=Aa (show AG (bt s i)=bt s i-48 by unfold AG;rw[aF k]);obtain⟨I,j⟩:=k;simp only;go_wp2;go_ret2;have e:CJ s i=true:=by unfold CJ;rw[a.o];simp;omega
   have f:K7 s i=i+1:=by unfold K7;rw[a.o,aC kX]
   rw[e,f];exact⟨_,rfl,u,p,fun _=>a.o.symm⟩
 have k:¬ (48<=bt s i/\bt s i<=57):=by unfold Ay at g;simpa using g
 have v:=Aa k;simp only;go_wp2_with fail;refine(Fh w1 b s i 97 102 p y x kX).mono ?_;rintro o w2⟨z,⟨h,rfl,r⟩|⟨h,rfl,r⟩⟩
 . have j:97<=bt s i/\bt s i<=102:=by unfold Ay at h;simpa using h
   have a:=Aa (show AG (bt s i)=bt s i-97+10 by unfold AG;rw[aC v.o,aF j];omega);obtain⟨J,K⟩:=j;simp only;go_wp2;go_ret2;have e:CJ s i=true:=by unfold CJ;rw[a.o];simp;omega
   have f:K7 s i=i+1:=by unfold K7;rw[a.o,aC kX]
   rw[e,f];exact⟨_,rfl,u.trans z,r,fun _=>a.o.symm⟩
 have j:¬ (97<=bt s i/\bt s i<=102):=by unfold Ay at h;simpa using h
 have a:=Aa (show AG (bt s i) = -1 by unfold AG;rw[aC v.o,aC j]);simp only;go_wp2;go_ret2;have e:CJ s i=false:=by unfold CJ;rw[a.o];rfl
 have f:K7 s i=i:=by unfold K7;rw[a.o,aF kX]
 rw[e,f];exact⟨_,rfl,u.trans z,r,fun E=>by cases E⟩
theorem KA(s i)(a:CJ s i=true):i<s.size/\K7 s i=i+1:=by
 have h0:0<=AG (bt s i):=by unfold CJ at a;simpa using a
 refine⟨AT s i ?_,by unfold K7;rw[aC kX]⟩;have:=FY (bt s i);unfold AG at h0;split at h0<;>(try split at h0)<;>omega
theorem SJ(s i)(a:CJ s i=false):K7 s i=i:=by
 have h0:¬ 0<=AG (bt s i):=by unfold CJ at a;simpa using a
 unfold K7;rw[aF kX]
def Gm(s:aA)(i:Nat):Bool:=CJ s i&&CJ s (i+1)
def Ku(s:aA)(i:Nat):Nat:=cond (CJ s i) (K7 s (i+1)) i
theorem Mo(w e s i)(z:Rd w e s i)(A:s.size<=400)(S:i<=s.size):
 Calls prog 119 #[P0 e] w fun r w'=>∃ j,r=.returned (.tuple #[.int .u8 j,.bool (Gm s i)])/\Df e w w'/\Rd w' e s (Ku s i)/\(Gm s i=true->j=AG (bt s i)*16+AG (bt s (i+1))):=by
 have F:=Aa z;clear z;go_enter func119,ntmps119;go_wp2_with fail;refine(LR w e s i F.o A S).mono ?_;rintro r w1⟨j,rfl,v,k,g⟩
 cases a:CJ s i
 . have f:Hid (CJ s i=false):=a;rw[SJ s i a]at k;clear a g;simp only;go_wp2;go_ret2;have K:Gm s i=false:=by unfold Gm;rw[f.o];rfl
   have L:Ku s i=i:=by unfold Ku;rw[f.o];rfl
   rw[K,L];exact⟨_,rfl,v,k,fun u=>by cases u⟩
 have f:Hid (CJ s i=true):=a;obtain⟨X,y⟩:=KA s i a;rw[y]at k;have g:=g a;have I:=Aa g;have M:=FY (bt s i);have U:0<=j/\j<=15:=by
  have:0<=AG (bt s i):=by unfold CJ at a;simpa using a
  omega
 obtain⟨Z,Y⟩:=U;clear a g y M;simp only;go_wp2_with fail;refine(LR w1 e s (i+1) k A kX).mono ?_;rintro r w2⟨E,rfl,B,x,h⟩;have o:Hid (Ku s i=K7 s (i+1)/\Gm s i=CJ s (i+1)):=by
  refine⟨?_,?_⟩;unfold Ku;rw[f.o];rfl;unfold Gm;rw[f.o];rfl
 cases b:CJ s (i+1)
 . have p:Hid (CJ s (i+1)=false):=b;clear h b;simp only;go_wp2;go_ret2;rw[o.out.1,o.out.2,p.o];exact⟨_,rfl,v.trans B,x,fun u=>by cases u⟩
 have p:Hid (CJ s (i+1)=true):=b;have h:=h b;have J:=Aa h;have O:=FY (bt s (i+1));have V:0<=E/\E<=15:=by
  have:0<=AG (bt s (i+1)):=by unfold CJ at b;simpa using b
  omega
 obtain⟨ab,aa⟩:=V;clear b h O;simp only;go_wp2;go_ret2;rw[o.out.1,o.out.2,p.o];refine⟨_,rfl,v.trans B,x,fun _=>?_⟩;rw[I.o,J.o]
theorem So(w b a s i j)(z:Rd w b s i)(y:Am w a j)(g:a≠b)(A:s.size<=400)(x:i<=s.size):
 Calls prog 196 #[P0 b,P0 a] w fun f w'=>
  Ni s b a w (Gm s i) (Ku s i) {j with vl:=AG (bt s i)*16+AG (bt s (i+1))} f w':=by
 have p:=Aa z;have k:=Aa y;go_enter func196,ntmps196;go_wp2_with fail;refine(Mo w b s i p.o A x).mono ?_;rintro f w1⟨I,rfl,h,v,B⟩;have e:=k.o.same h g;have E:=e.c5;have F:=e.frozen 5;have o:=Aa e;have r:=Aa B;simp only;go_wp2;go_ret;refine⟨rfl,(h.two a).setCell _ _,Rd.other v _ (fB g) _,_,o.o.vl _,rfl,fun u=>?_⟩;rw[r.o u]
abbrev ka(h:PLift q->p:=by
 intro aa;have ab:f=0\/f=1\/f=2\/f=3\/f=4\/f=5\/f=6\/f=7\/f=8\/f=9\/f=10\/f=11\/f=12\/f=13\/f=14:=kX;revert ab;exact aa.1):p:=h ⟨z⟩
structure Sh where
 a:Int:=0
 b:Int:=0
 w:Bool:=false
 d:Bool:=false
 v:Bool:=false
 n:Int:=0
def Ax:aD Sh:=[⟨110,110,true,false,false,0⟩,⟨108,108,true,false,false,0⟩,⟨39,39,false,false,true,0⟩,⟨40,40,false,false,false,-1⟩,⟨47,47,false,false,false,2⟩,⟨42,42,false,false,false,1⟩,
 ⟨65,72,false,false,false,0⟩,⟨104,104,true,true,false,0⟩,⟨107,107,true,true,false,0⟩,⟨114,114,false,true,false,0⟩,⟨116,116,false,true,false,1⟩,⟨119,119,false,true,false,1⟩,⟨64,64,false,true,false,1⟩,
 ⟨115,115,false,true,false,1⟩,⟨46,46,false,false,false,0⟩]
def sh(a:Nat):Sh:=Ax.getD a {}
def Sh.row(a:Sh):Array aI:=#[.int .u8 a.a,.int .u8 a.b,.bool a.w,.bool a.d,.bool a.v,I0 a.n]
def Mi:aD aI:=Ax.flatMap fun a=>a.row.toList
def Eu(w:aE):Prop:=w.rangeAt 0 0 Mi/\0<w.heap.size
def CC(c:Int):Nat:=Ax.findIdx fun a=>decide (a.a<=c)&&decide (c<=a.b)
theorem Acx(f:Nat)(a:f<15)(w:aE):(Instr.index 253 (.agg Mi.toArray) (I0 f)).run prog w=.ok (.agg (sh f).row) w:=by
 refine ka ?_;intro ab;rcases ab with rfl|rfl|rfl|rfl|rfl|rfl|rfl|rfl|rfl|rfl|rfl|rfl|rfl|rfl|rfl<;>rfl
theorem Hh{ops}{rest}{e}{a}{w}{Q:Exit->Act->aE->Prop}(k:e.guard=none)(f g:Operand)(p:e.op=.index 253 f g)(b:Nat)(o:b<15)(r:a.eval f=.agg Mi.toArray)(u:a.eval g=I0 b)(h:wpList prog ops Q rest (a.put e.dst (.agg (sh b).row)) w):wpList prog ops Q (e::rest) a w:=
 iN k fun _ j=>by
  unfold Oper.wp execOp;simp only[p,r,u,Acx b o,fY,fO,gV];exact j _ _ h
theorem Zk(c a)(g:a<15)(b:(decide ((sh a).a<=c)&&decide (c<=(sh a).b))=true)(f:∀ i,i<a->(decide ((sh i).a<=c)&&decide (c<=(sh i).b))=false):CC c=a:=by
 have h:Ax.length=15:=rfl;unfold CC;rw[List.findIdx_eq kX];refine⟨?_,fun i e=>?_⟩;have:=b;simp only[sh,A3 _ _ _ (show a<Ax.length by omega)]at this;exact this;have:=f i e;simp only[sh,A3 _ _ _ (show i<Ax.length by omega)]at this;exact this
theorem TN(c)(b:∀ i,i<15->(decide ((sh i).a<=c)&&decide (c<=(sh i).b))=false):CC c=15:=by
 have f:Ax.length=15:=rfl;unfold CC;rw[show(15:Nat)=Ax.length from rfl,kB];intro g e;obtain⟨i,a,rfl⟩:=fT e;have:=b i kX;simp only[sh,A3 _ _ _ a]at this;exact this
def MR(c:Int):Int:=if CC c<15 then(CC c:Int)else 0
def Kr(c:Int):Bool:=decide (CC c<15)
theorem Aai{e:Nat->Bool}{b:Nat}(g:∀ a,a<b->e a=false)(f:e b=false):∀ a,a<b+1->e a=false:=by
 intro a j;by_cases h:a=b;rw[h];exact f;exact g a kX
theorem Qi(w c)(F:Eu w):
 Calls prog 171 #[.int .u8 c] w fun z w'=>z=.returned (.tuple #[I0 (MR c),.bool (Kr c)])/\Below w.heap.size w w':=by
 have y:=Aa F.1;go_enter func171,ntmps171;go_wp2_with (refine wpList_load_mid rfl 253 _ rfl 0 0 rfl Mi (.array 15 252) y.o underlying253 rfl kZ ?_);generalize E:Mi.toArray=L at*;have u:=Aa E;go_loopw [7] (fun r wr=>∃ a:Nat,r=I0 a/\a<=15/\Hid (Below w.heap.size w wr)/\Hid (∀ i,i<a->(decide ((sh i).a<=c)&&decide (c<=(sh i).b))=false)) (fun r _=>15-(intOf r).toNat)
 case atStart=>exact⟨0,rfl,by omega,aO _ _,fun i M=>by omega⟩
 case round=>
  obtain⟨a,rfl,O,k,o⟩:=hrel;have K:=k.out.size;have v:Hid (∀ p,Below w.heap.size w (wr.alloc p)):=fun p=>k.out.alloc K p
  by_cases f:a<15
  . have S:(a:Int)<15:=by omega
    cases g:(decide ((sh a).a<=c)&&decide (c<=(sh a).b))
    . have x:Hid (∀ i,i<a+1->(decide ((sh i).a<=c)&&decide (c<=(sh i).b))=false):=Aai o.out g;have J:¬ (sh a).a<=c\/((sh a).a<=c/\¬ c<=(sh a).b):=by
       by_cases b:(sh a).a<=c;refine Or.inr ⟨b,fun B=>?_⟩;rw[bF b,bF B]at g
       cases g
       exact Or.inl b
      rcases J with b|⟨b,A⟩;all_goals
       go_wp2_with (refine Hh rfl _ _ rfl a f (by rw[u.o];rfl) rfl ?_;simp only[Sh.row]);go_roundw
       case rel=>exact⟨a+1,by go_num,by omega,v.o _,x⟩
       case measure=>simp[intOf];omega
    . have e:Hid (CC c=a):=Zk c a f g o.out;have I:(sh a).a<=c/\c<=(sh a).b:=by simpa using g
      obtain⟨b,A⟩:=I;go_wp2_with (refine Hh rfl _ _ rfl a f (by rw[u.o];rfl) rfl ?_;simp only[Sh.row]);go_ret2;have h:MR c=a:=by unfold MR;rw[e.o,aF f]
      have j:Kr c=true:=by unfold Kr;rw[e.o];simpa using f
      rw[h,j];exact⟨rfl,v.o _⟩
  have e:Hid (CC c=15):=TN c (by have:=o.out;rwa [show a=15 by omega]at this);go_wp2;go_ret2;have h:MR c=0:=by unfold MR;rw[e.o];rfl
  have j:Kr c=false:=by unfold Kr;rw[e.o];rfl
  rw[h,j];exact⟨rfl,k.out⟩
theorem jl(h:p:=by
 intro q aa;obtain⟨aj,hi,a,b,c,d⟩:=h.ok q aa;exact⟨aj,hi,a,by have:=ae.size;omega,c,d.mono (fun k ab ac=>ae.block k kX kX) (aB _) (aB _)⟩):p:=h
def IU(c:Int):Int:=if c=82 then 6 else CC c
structure He (x:It) (p:Pt):Prop where
 k:p.k=IU x.c
 wd:p.wd=x.w
 vl:p.vl=x.b
 ru:x.c=82->p.pl=x.pl/\p.ru=x.r
 dp:kD x.c=true->p.dp=x.d/\p.EZ=x.pl
def ER(l:aD Nat):aD aI:=l.map fun q=>P0 q
def BZ(w:aE)(h g:Nat)(f:aI)(l:aD Nat):Prop:=
 (f=.slice none 0 0/\l=[])\/∃ a e,f=S0 a l.length e/\h<=a/\a<g/\l.length<=e/\∀ b,b<l.length->w.cell? (A0 a b)=some (P0 (l.getD b 0))
def H6:Nat->aE->Nat->Nat->Nat->aD It->Prop
 | 0,_,_,_,_,_=>False
 | f+1,w,lo,hi,pb,XC=>∃ (e:It) (a:aD (Nat × aD It)) (b:Pt),XC=e::a.flatMap Prod.snd/\e.nx=1+((a.flatMap Prod.snd).length:Int)/\lo<=pb/\pb<hi/\Am w pb b/\He e b/\
  BZ w lo hi b.v (a.map Prod.fst)/\∀ q,q∈a->H6 f w lo hi q.1 q.2
theorem BZ.mono{w w' g f lo' hi' j l}(e:BZ w g f j l)(u:∀ a,g<=a->a<f->w'.heap[a]? = w.heap[a]?)(x:lo'<=g)(y:f<=hi'):BZ w' lo' hi' j l:=by
 rcases e with e|⟨h,o,r,k,b,c,d⟩;exact Or.inl e;exact Or.inr ⟨h,o,r,by omega,by omega,c,fun v p=>by rw[aL (w:=w) (u h k b)];exact d v p⟩
theorem H6.mono{h}:∀ {w w':aE} {f e lo' hi' g:Nat} {j:aD It},H6 h w f e g j->(∀ a,f<=a->a<e->w'.heap[a]? = w.heap[a]?)->lo'<=f->e<=hi'->H6 h w' lo' hi' g j:=by
 induction h with
 | zero=>intro w w' f e lo' hi' g j k;exact k.elim
 | succ h E=>
  intro w w' f e lo' hi' g j k o r u;obtain⟨x,F,p,z,A,v,b,c,d,y,a⟩:=k;refine⟨x,F,p,z,A,by omega,by omega,?_,d,y.mono o r u,fun q B=>E (a q B) o r u⟩;unfold Am Ac at*;rw[o g v b];exact c
theorem H6.fuel{a}:∀ {w:aE} {e b f:Nat} {g:aD It},H6 a w e b f g->H6 (a+1) w e b f g:=by
 induction a with
 | zero=>intro w e b f g h;exact h.elim
 | succ a v=>
  intro w e b f g h;obtain⟨A,y,z,p,r,j,k,c,d,o,x⟩:=h;exact⟨A,y,z,p,r,j,k,c,d,o,fun q u=>v (x q u)⟩
theorem G5(c a)(e:CC c=a)(g:a<15):(sh a).a<=c/\c<=(sh a).b:=by
 have h:Ax.length=15:=rfl;unfold CC at e;have b:=List.findIdx_getElem (xs:=Ax) (p:=fun f=>decide (f.a<=c)&&decide (c<=f.b)) (w:=by omega);simp only[e]at b;simp only[aY,bD]at b;unfold sh;rw[A3 _ _ _ kX];exact b
def Gy(c:Int):Bool:=decide (c=39)||decide (c=104)||decide (c=107)
def BM:Nat->aE->Nat->Nat->Nat->Bool->aD It->Prop
 | 0,_,_,_,_,_,_=>False
 | f+1,w,lo,hi,a,h,XC=>∃ (b:It) (e:aD (Nat × aD It)) (g:Pt),XC=b::e.flatMap Prod.snd/\b.nx=1+((e.flatMap Prod.snd).length:Int)/\lo<=a/\a<hi/\Am w a g/\He b g/\g.sl=(h&&Gy b.c)/\
  BZ w (a+1) hi g.v (e.map Prod.fst)/\∀ q,q∈e->BM f w (a+1) hi q.1 (decide (b.c=40)) q.2
theorem BM.mono{h}:∀ {w w':aE} {f e lo' hi' g:Nat} {k:Bool} {j:aD It},BM h w f e g k j->(∀ a,f<=a->a<e->w'.heap[a]? = w.heap[a]?)->lo'<=f->e<=hi'->BM h w' lo' hi' g k j:=by
 induction h with
 | zero=>intro w w' f e lo' hi' g k j o;exact o.elim
 | succ h F=>
  intro w w' f e lo' hi' g k j o r K v;obtain⟨x,J,p,A,B,y,b,c,d,s,z,a⟩:=o;refine⟨x,J,p,A,B,by omega,by omega,?_,d,s,z.mono (fun a I u=>r a kX u) (aB _) v,fun q E=>F (a q E) (fun a I u=>r a kX u) (aB _) v⟩;unfold Am Ac at*;rw[r g y b];exact c
theorem BM.toT{a}:∀ {w:aE} {e b f:Nat} {j:Bool} {g:aD It},BM a w e b f j g->H6 a w e b f g:=by
 induction a with
 | zero=>intro w e b f j g h;exact h.elim
 | succ a x=>
  intro w e b f j g h;obtain⟨B,z,A,r,u,k,o,c,d,_,p,y⟩:=h;exact⟨B,z,A,r,u,k,o,c,d,p.mono (fun _ _ _=>rfl) kX (aB _),fun q v=>(x (y q v)).mono (fun _ _ _=>rfl) kX (aB _)⟩
theorem BM.head{f w j h b u k}(g:BM f w j h b u k):∃ e rest a,k=e::rest/\Am w b a/\a.k=IU e.c/\j<=b/\b<h:=by
 cases f with
 | zero=>exact g.elim
 | succ f=>
  obtain⟨e,x,a,r,v,o,p,c,d,_⟩:=g;exact⟨e,_,a,r,c,d.k,o,p⟩
theorem BM.tell{f w k g e b rest}(h:BM f w k g e false (b::rest)):BM f (w.setCell (A0 e 7) (.bool (Gy b.c))) k g e true (b::rest):=by
 cases f with
 | zero=>exact h.elim
 | succ f=>
  obtain⟨B,y,z,u,v,o,p,c,d,_,r,a⟩:=h
  cases u
  have j:∀ a,e+1<=a->a<g->(w.setCell (A0 e 7) (.bool (Gy b.c))).heap[a]? = w.heap[a]? := fun a A _=>aN _ _ _ _ lA
  refine⟨b,y,{z with sl:=Gy b.c},rfl,v,o,p,c.sl _,⟨d.k,d.wd,d.vl,d.ru,d.dp⟩,by simp,r.mono j (aB _) (aB _),fun q x=>(a q x).mono j (aB _) (aB _)⟩
def Nv(g:Nat)(w:aE)(j f:Nat)(k:Bool)(o:aI)(h:aD (Nat × aD It)):Prop:=
 ∀ q,q∈h->∃ e b,j<e/\b<=f/\(∀ a,o.ownBlock=some a->a<e\/b<=a)/\BM g w e b q.1 k q.2
structure Mk (f:Nat) (w:aE) (pb:Nat) (sl:Bool) (p:Pt) (kids:aD (Nat × aD It)):Prop where
 Ap:Am w pb p
 row:w.ownsRow (pb+1) 121 1 p.v kids.length (ER (kids.map Prod.fst))
 ok:Nv f w pb w.heap.size sl p.v kids
structure MkN (f:Nat) (w:aE) (pb:Nat) (sl:Bool) (p:Pt) (kids:aD (Nat × aD It)) (q:Nat × aD It):Prop where
 Ap:Am w pb p
 row:w.ownsRow (pb+1) 121 1 p.v (kids++[q]).length (ER ((kids++[q]).map Prod.fst))
 ok:∃ B,pb<B/\Nv f w pb B sl p.v kids/\∃ hi,hi<=w.heap.size/\(∀ g,p.v.ownBlock=some g->g<B\/hi<=g)/\BM f w B hi q.1 false q.2
theorem Nv.bound{e w g a b h j}{f:aD (Nat × aD It)}(o:Nv e w g a h j f)(x:a<=b):Nv e w g b h j f:=by
 intro q r;obtain⟨u,p,k,v,c,d⟩:=o q r;exact⟨u,p,k,by omega,c,d⟩
theorem MkN.lt{b w a h p}{g:aD (Nat × aD It)}{q:Nat × aD It}(e:MkN b w a h p g q):a<q.1/\q.1<w.heap.size:=by
 obtain⟨j,u,_,v,r,_,f⟩:=e.ok;obtain⟨B,rest,A,o,k,x,y,z⟩:=f.head;exact⟨by omega,by omega⟩
theorem MkN.all{e w j h}{g:aD (Nat × aD It)}{q:Nat × aD It}(b:MkN e w j false h g q):Mk e w j false h (g++[q]):=by
 obtain⟨k,r,v,u,o,p,f⟩:=b.ok;refine⟨b.Ap,b.row,fun x a=>?_⟩;rcases aV.1 a with a|a;exact v.bound (by obtain⟨I,rest,F,z,y,A,B,E⟩:=f.head;omega) x a;simp at a;subst a;exact⟨k,u,r,o,p,f⟩
theorem MkN.tell{p w o k}{x:aD (Nat × aD It)}{q e rest}(g:MkN p w o true k x (q,e::rest)):Mk p (w.setCell (A0 q 7) (.bool (Gy e.c))) o true k (x++[(q,e::rest)]):=by
 obtain⟨y,F,h,I,E,r,u⟩:=g.ok;obtain⟨aa,Z,Y,f,A,a,M,O⟩:=u.head;simp only at M O;have v:(w.setCell (A0 q 7) (.bool (Gy e.c))).heap.size=w.heap.size:=by simp[World.setCell]
 have j:∀ a,a≠q->(w.setCell (A0 q 7) (.bool (Gy e.c))).heap[a]? = w.heap[a]? := fun a h=>aN _ _ _ _ h
 refine⟨?_,?_,fun U b=>?_⟩;have:=g.Ap;unfold Am Ac at*;rw[j o kX];exact this
 . refine g.row.kept (row:=some q) ⟨rfl,rfl,rfl,by rw[v];exact aB _,fun a _ K=>j a (by intro f;exact K (by rw[f]))⟩ ?_
   cases L:k.v.ownBlock with
   | none=>exact Or.inl rfl
   | some B=>exact Or.inr (by have:=r B L;intro f;cases f;omega)
 rw[v];rcases aV.1 b with b|b;obtain⟨S,J,z,A,c,d⟩:=h U b;exact⟨S,J,z,by omega,c,d.mono (fun a V X=>j a kX) (aB _) (aB _)⟩;simp at b;subst b;exact⟨y,I,F,E,r,u.tell⟩
theorem SU{w a g l f e}(b:w.ownsRow a 121 1 g l.length (ER l))(v:f<=a)(x:w.heap.size<=e):BZ w f e g l:=by
 rcases b.2 with⟨rfl,h0⟩|⟨j,h,u,rfl,y,k,p,z,A,B⟩;exact Or.inl ⟨rfl,cG h0⟩;refine Or.inr ⟨j,h,rfl,by omega,by have:=(cW.1 k).1;omega,p,fun r o=>?_⟩;rw[b.cellAt r kX];simp[ER,o]
theorem Mk.rep{k w j p g}{b:aD (Nat × aD It)}(f:Mk k w j p g b){e}(y:He e g)(x:g.sl=false)(a:b=[]\/p=decide (e.c=40))(v:e.nx=1+((b.flatMap Prod.snd).length:Int)){o}(u:o<=j):BM (k+1) w o w.heap.size j false (e::b.flatMap Prod.snd):=by
 refine⟨e,b,g,rfl,v,u,f.Ap.lt,f.Ap,y,by simpa using x,SU (by simpa using f.row) (aB _) (aB _),fun q h=>?_⟩;obtain⟨B,A,z,r,_,c⟩:=f.ok q h;rcases a with a|a;rw[a]at h;simp at h;rw[<- a];exact c.mono (fun _ _ _=>rfl) kX r
theorem Mk.fr{g w w' e rb o p}{j:aD (Nat × aD It)}(h:Mk g w e o p j)(ae:Fr w.heap.size rb w w')(z:rb<e):Mk g w' e o p j:=by
 have y:=h.Ap.lt;refine⟨?_,?_,?_⟩;have:=h.Ap;unfold Am Ac at*;rw[ae.block e kX kX];exact this
 . refine h.row.kept (row:=some rb) ⟨ae.os,ae.tape,ae.output,ae.size,fun k u v=>ae.block k u (by intro f;exact v (by rw[f]))⟩ ?_
   cases x:p.v.ownBlock with
   | none=>exact Or.inl rfl
   | some r=>exact Or.inr (by have:=(h.row.lt r x).1;intro f;cases f;omega)
 exact jl
theorem DI(h:p:=by
 rcases ab with rfl|rfl|rfl|rfl|rfl|rfl|rfl|rfl<;>rfl):p:=h
theorem ji(h:p:=by
 rcases ar with⟨ae,a0⟩|⟨g,aq,ae,bb,bc,_,p⟩;exact⟨none,0,by rw[ae,a0];rfl,fun f ad=>by rw[a0]at ad;simp at ad⟩;exact⟨_,_,ae,fun f ad=>⟨g,rfl,by omega,p f ad⟩⟩):p:=h
theorem jj(h:p:=by
 induction l with
 | nil=>simp at h
 | cons x y am=>
  simp only[bY,aR];rcases bB.1 h with rfl|h;omega;have:=am h;omega):p:=h
theorem g9(h:p:=by
 rcases ab with rfl|rfl|rfl|rfl|rfl|rfl|rfl|rfl<;>exact⟨rfl,rfl⟩):p:=h
theorem Bn(h:p:=by
 simpa using av):p:=h
theorem Fu(h:p:=by
 have:=h.size;omega):p:=h
abbrev k4(h:PLift q->p:=by
 intro aa;have ab:d=0\/d=1\/d=2\/d=3\/d=4\/d=5\/d=6\/d=7:=kX;revert ab;exact aa.1):p:=h ⟨z⟩
theorem Tryz.Aax:(prog.info? 121).map (fun i=>(i.zero,i.size,i.bytes))=some (some (.pointer none),1,8):=kZ
def E9(s:aA)(e:Int)(a:Nat):Prop:=
 ∀ w b i,Rd w b s i->Eu w->0<b->i<=s.size->s.size+1-i<=a->
  Calls prog 98 #[P0 b] w fun h w'=>
   ∃ f,h=.returned (.tuple #[.pointer f,.bool (AF s e a i).ok])/\Rd w' b s (AF s e a i).i/\Fr w.heap.size b w w'/\
    ((AF s e a i).ok=true->∃ g,f=some (A0 g 0)/\BM a w' w.heap.size w'.heap.size g false (AF s e a i).As)
theorem Eu.fr{w w' B rb}(a:Eu w)(b:Fr B rb w w')(h0:0<rb)(e:0<B):Eu w':=by
 refine⟨fun g h f=>?_,by have:=b.size;have:=a.2;omega⟩;rw[aL (w:=w) (b.block 0 e kX)];exact a.1 g h f
def Pq(s:aA)(g:Nat)(e b:Nat)(k:Bool)(w:aE)(j:Pt)(h:aD (Nat × aD It))(a:C3)(f:Ending)(w':aE):Prop:=
 f=.returned (.bool a.ok)/\Rd w' e s a.i/\Fr b e w w'/\w.heap.size<=w'.heap.size/\(a.ok=true->∃ q o,MkN g w' b k {j with v:=o} h (q,a.As))
theorem WL{s}{u}{o e}{B}{w w1 w2}{h}{f:aD (Nat × aD It)}{A}{K}{L}{J}{g p}(v:Mk u w e B h f)(U:Mk u w1 e B h f)(ad:Rd w1 o s K)(k:Fr w.heap.size o w w1)(al:o<e)(ae:A=true->∃ q,J=some (A0 q 0)/\BM u w1 w.heap.size w1.heap.size q false L)(aa:w2.ownsRow (e+1) 121 1 (S0 g (f.length+1) p) (f.length+1) (ER (f.map Prod.fst)++[.pointer J]))(aj)(r:(w1.alloc aj).grownBy w2 h.v.ownBlock)(E:h.v.ownBlock=some g\/g=w1.heap.size+1)(V:Am w2 e h):
 Pq s u o e B w h f ⟨A,K,L⟩ (.returned (.bool A)) (w2.setCell (A0 e 8) (S0 g (f.length+1) p)):=by
 have ab:=v.Ap.lt;have am:=k.size;have af:=r.size;simp at af;have I:∀ a,h.v.ownBlock=some a->e+1<=a:=fun a b=>(U.row.lt a b).1
 have x:∀ a,a<w1.heap.size->a≠e->some a≠h.v.ownBlock->(w2.setCell (A0 e 8) (S0 g (f.length+1) p)).heap[a]? = w1.heap[a]? := by
  intro a F y z;rw[aN _ _ _ _ y,r.block a lA z,bC _ _ _ F]
 refine⟨rfl,?_,?_,?_,fun Z=>?_⟩;have:=ad;unfold Rd Ac at*;rw[x o kX kX (fun b=>by have:=I o b.symm;omega)];exact this;refine⟨?_,?_,?_,?_,fun a F Y=>?_⟩;show w2.os=_;rw[r.os];exact k.os;show w2.tape=_;rw[r.tape];exact k.tape;show w2.output=_;rw[r.output];exact k.output;simp[World.setCell];omega;rw[x a kX kX (fun b=>by have:=I a b.symm;omega)];exact k.block a kX Y;simp[World.setCell];omega;obtain⟨q,rfl,ac⟩:=ae Z;refine⟨q,S0 g (f.length+1) p,V.pv _,?_,?_⟩;have:=dS aa (a:=(A0 e 8)) kY (S0 g (f.length+1) p);simpa[ER]using this;refine⟨w.heap.size,ab,fun ak ah=>?_,w1.heap.size,by simp[World.setCell];omega,fun S b=>?_,ac.mono (fun a y z=>x a kX kX (fun b=>?_)) (aB _) (aB _)⟩;obtain⟨ai,X,M,O,c,d⟩:=v.ok ak ah;refine⟨ai,X,M,O,fun S b=>?_,d.mono (fun a y z=>?_) (aB _) (aB _)⟩;simp[Value.ownBlock]at b;subst b;rcases E with j|j;exact c g j;right;omega;rw[x a kX kX (fun b=>by rcases c a b.symm with j|j<;>omega)];exact k.block a kX kX;simp[Value.ownBlock]at b;subst b;rcases E with j|j;left;exact(v.row.lt g j).2;right;omega;have:=(v.row.lt a b.symm).2;omega
theorem C7(s)(x)(b)(K:E9 s x b)(w)(e a i)(L)(g)(f:aD (Nat × aD It))(u:Rd w e s i)(A:Eu w)(h0:0<e)(J:e<a)(aa:i<=s.size)(Z:s.size+1-i<=b)(o:Mk b w a L g f)(au:f.length<=1000):
 Calls prog 198 #[P0 e,P0 a] w fun j w'=>Pq s b e a L w g f (AF s x b i) j w':=by
 obtain⟨ai,ab,ae,af,ah⟩:=cY Tryz.Aax;have z:=u;have y:=Aa o;have X:=Aa A;have O:=Aa K;have z:=Aa u;have aw:=o.Ap.lt;clear u o A K;go_enter func198,ntmps198;go_wp2_with fail;refine(O.o w e i z.o X.o h0 aa Z).mono ?_;rintro j w1⟨v,rfl,F,r,I⟩;have k:=y.o.fr r J;generalize E:AF s x b i=aj at*;obtain⟨am,ak,al⟩:=aj;have S:=Aa E;clear E;have an:=k.Ap.c8;have h:=Aa k;have ax:=k.Ap.lt;have U:Hid (Rd w1 e s ak):=F;have M:=Aa r;have V:Hid (am=true->∃ a,v=some (A0 a 0)/\BM b w1 w.heap.size w1.heap.size a false al):=I;clear k F r I;simp only;go_wp2_with
  (at_builtin
   refine cS _ rfl _ _ _ rfl (a+1) 121 ai _ 1 8 underlying183 ab ae af ah rfl kX g.v f.length (ER (f.map Prod.fst)) rfl (h.o.row.alloc _) (A0 w1.heap.size 0) 1 1 [.pointer v] rfl rfl (cD (cs:=#[.pointer v]) (t:=121) (fr:=(0,0)) (cJ w1 _)) (by simp[Value.oneCell']) kX lD kX lA (w1.heap.size+1) kY ?_;intro ar ap w2 ad B Y av;have ac:some a≠g.v.ownBlock:=fun j=>by have:=(h.o.row.lt a j.symm).1;omega
   have p:Am w2 a g:=Ac.grown (Ac.alloc h.o.Ap _) B ac;have ao:=p.c8;have aq:=p.frozen 8)
 go_ret;rw[S.o];exact WL y.o h.o U.o M.o J V.o ad _ B Y p
def KH(w:aE)(a:Nat):Nat:=match w.cell? (A0 a 1)with|some (.int _ n)=>n.toNat|_=>0
theorem My{w a s i}(b:Rd w a s i):KH w a=i:=by
 have:w.cell? (A0 a 1)=some (I0 i):=b.cell 1;unfold KH;rw[this];simp
theorem C3.G3(l m)(q:C3):(q.pre m).pre l=q.pre (l++m):=by simp[C3.pre]
def RT(a:Int):Bool:=a==7||a==8
def X1(a:Int):Bool:=a==2||RT a
theorem Gi(a w):Calls prog 100 #[I0 a] w fun b w'=>b=.returned (.bool (RT a))/\w'=w:=by
 go_enter func100,ntmps100;go_wp2;all_goals
  go_ret;refine⟨?_,rfl⟩
  first
   | rfl
   | (unfold RT;simp[*])
theorem NH(a w):Calls prog 206 #[I0 a] w fun e w'=>e=.returned (.bool (X1 a))/\w'=w:=by
 go_enter func206,ntmps206;by_cases b:a=2
 . have f:(a==2)=true:=by simpa using b
   go_wp2;go_ret;exact⟨by simp[X1,b],rfl⟩
 have f:(a==2)=false:=by simpa using b
 go_wp2_with fail;refine(Gi _ _).mono ?_;rintro e w1⟨rfl,rfl⟩;simp only;go_wp2;go_ret;exact⟨by simp[X1,f],rfl⟩
theorem Acl(c):X1 (IU c)=Gy c:=by
 unfold X1 RT Gy IU;by_cases g:c=82;subst g;rfl;rw[aC g];by_cases b:c=39;subst b;rfl;by_cases e:c=104;subst e;rfl;by_cases f:c=107;subst f;rfl;have o:CC c≠2:=fun a=>by have:=G5 c 2 a kX;simp[sh,Ax]at this;omega
 have p:CC c≠7:=fun a=>by have:=G5 c 7 a kX;simp[sh,Ax]at this;omega
 have r:CC c≠8:=fun a=>by have:=G5 c 8 a kX;simp[sh,Ax]at this;omega
 have h:¬ (CC c:Int)=2:=kX;have j:¬ (CC c:Int)=7:=kX;have k:¬ (CC c:Int)=8:=kX;simp[b,e,f,h,j,k]
theorem MkN.see{v w A B o}{b:aD (Nat × aD It)}{q k}(g:MkN v w A B o b (q,k)):
 ∃ e rest p a f,k=e::rest/\Am w q p/\p.k=IU e.c/\o.v=S0 a (b.length+1) f/\w.cell? (A0 a b.length)=some (P0 q):=by
 obtain⟨E,J,L,K,F,I,x⟩:=g.ok;obtain⟨e,rest,z,u,r,y,M,O⟩:=x.head;obtain⟨a,f,j,_,_⟩:=g.row.form kY;refine⟨e,rest,z,a,f,u,r,y,by simpa using j,?_⟩;have h:=g.row;rw[j]at h;have:=h.cellAt b.length kY;rw[this];simp[ER]
structure AtB (s:aA) (Ig:Int) (f:Nat) (rb pb:Nat) (w:aE) (p:Pt) (i i' n:Nat) (kids:aD (Nat × aD It)) (v:aI) (wr:aE):Prop where
 rd:Rd wr rb s i'
 made:Mk f wr pb true {p with v:=v} kids
 fr:Fr pb rb w wr
 sz:w.heap.size<=wr.heap.size
 hi:i'<=s.size
 hn:n+i<=i'
 hk:kids.length<=n
 eq:Bp (AF s Ig f) s f i=(Bp (AF s Ig f) s (f-n) i').pre (kids.flatMap Prod.snd)
def Rt(s:aA)(h:Nat)(f e:Nat)(w:aE)(k:Pt)(j:aD (Nat × aD It))(a:C3)(g:Ending)(w':aE):Prop:=
 g=.returned (.bool a.ok)/\Rd w' f s a.i/\Fr e f w w'/\w.heap.size<=w'.heap.size/\(a.ok=true->∃ b o,Mk h w' e true {k with v:=o} (j++b)/\b.flatMap Prod.snd=a.As)
theorem Es(s)(b)(bk:s.size<=400)(a)(ax:E9 s b a)(w)(f j i)(p)(ar:Rd w f s i)(al:Eu w)(h0:0<f)(av:f<j)(X:i<=s.size)(b7:s.size+1-i<=a)(U:Mk a w j true p []):
 Calls prog 197 #[P0 f,P0 j] w fun B w'=>Rt s a f j w p [] (Bp (AF s b a) s a i) B w':=by
 have a3:=Aa U;have a9:=Aa al;have a2:=Aa ax;have a7:=Aa ar;have b9:=U.Ap.lt;clear ar U al ax;go_enter func197,ntmps197;go_wp2;go_loopw [4] (fun _ wr=>∃ (e n:Nat) (g:aD (Nat × aD It)) (v:aI),Hid (AtB s b a f j w p i e n g v wr)) (fun _ wr=>s.size+1-KH wr f)
 case atStart=>
  exact⟨i,0,[],p.v,⟨a7.o,a3.o,Fr.refl _ _ _,aB _,X,by omega,by simp,by simp[C3.pre]⟩⟩
 case round=>
  obtain⟨e,n,g,v,V⟩:=hrel;obtain⟨af,bc,J,b3,ah,b4,b5,ai⟩:=V.out;have ap:=My af;have a6:=Aa ap;have ae:=V;have ba:Hid (Eu wr):=a9.o.fr J h0 kX;have r:=Aa ai;have x:=Aa (show Bp (AF s b a) s (a-n) e=if(AF s b a e).ok=true then(if bt s (AF s b a e).i=41 then⟨true,(AF s b a e).i+1,(AF s b a e).As⟩else(Bp (AF s b a) s (a-(n+1)) (AF s b a e).i).pre (AF s b a e).As)else⟨false,(AF s b a e).i,[]⟩by
   rw[show a-n=(a-(n+1))+1 by omega,Bp])
  have am:=BA s b a e ah;have a1:=Aa am;clear ap V ai am;go_wp2_with fail;refine(C7 s b a a2.o wr f j e true {p with v:=v} g ae.o.rd ba.o h0 av ah kX ae.o.made kX).mono ?_;rintro B w2⟨rfl,A,aj,b6,ak⟩;clear af bc;generalize aq:AF s b a e=br at*;have b2:=Aa aq;clear aq;obtain⟨bu,k,cd⟩:=br
  cases bu
  . have I:=Aa (show Bp (AF s b a) s a i=⟨false,k,g.flatMap Prod.snd⟩by
     have o:=x.o;rw[r.o,o];simp[C3.pre])
    clear x r;simp only;go_wp2;go_ret;rw[I.o];exact⟨rfl,A,J.trans aj,by omega,fun o=>by cases o⟩
  obtain⟨q,ce,y⟩:=ak rfl;obtain⟨M,be,O⟩:=a1.o;obtain⟨O,bf⟩:=O rfl;simp only at A M be O bf;obtain⟨bi,bj⟩:=y.lt;simp only at bi bj;obtain⟨h,rest,cc,L,K,rfl,F,an,aw,bh⟩:=y.see;simp only at aw;subst aw;have z:=Aa y.tell;have bd:q_ w2 j 8 (S0 L (g.length+1) K):=y.Ap.cell 8;have bo:w2.cell? (A0 q 0)=some (I0 (IU h.c)):=by rw[<- an];exact F.cell 0
  have bp:=F.c7;have bq:=F.frozen 7;have b8:g.length<=400:=kX;have Z:=Aa (Ac.Ad A (A0 q 7) lB (.bool (Gy h.c)));have u:=Aa ((J.trans aj).setCell (p:=(A0 q 7)) (Or.inr lB) (.bool (Gy h.c)));clear ak y F an A;simp only;go_wp2_with fail;go_quiet (fail);go_wp2_with fail;refine(NH _ _).mono ?_;rintro B cf⟨rfl,bg⟩;subst bg;simp only[Acl];go_wp2_with fail;have a4:Hid (Mk a ((w2.drewN nq).setCell (A0 q 7) (.bool (Gy h.c))) j true {p with v:=S0 L (g.length+1) K} (g++[(q,h::rest)])):=⟨z.o.Ap,z.o.row,fun bv bl=>by obtain⟨bm,X,bx,bz,b0,b1⟩:=z.o.ok bv bl;exact⟨bm,X,bx,bz,b0,b1.mono (fun _ _ _=>rfl) (aB _) (aB _)⟩⟩;have az:Hid (Rd ((w2.drewN nq).setCell (A0 q 7) (.bool (Gy h.c))) f s k):=Z.o;have a0:Hid (Fr j f w ((w2.drewN nq).setCell (A0 q 7) (.bool (Gy h.c)))):=⟨u.o.os,u.o.tape,u.o.output,u.o.size,u.o.block⟩;have cb:((w2.drewN nq).setCell (A0 q 7) (.bool (Gy h.c))).heap.size=w2.heap.size:=by simp[World.setCell]
  generalize(w2.drewN nq).setCell (A0 q 7) (.bool (Gy h.c))=bb at*;clear z Z u bd bo bp bq bh;refine(Gw bb f s k 41 az.o bk M kX).mono ?_;rintro B ay⟨Y,rfl,au⟩;have ab:=Aa (a4.o.fr (Y.fr _) av);have ad:=Aa au;have ca:=Y.size;have aa:=Aa (a0.o.trans (Y.fr _));clear au
  cases E:Mb s k 41
  . have ao:¬ bt s k=41:=by unfold Mb at E;simpa using E
    have ac:Hid (AtB s b a f j w p i k (n+1) (g++[(q,h::rest)]) (S0 L (g.length+1) K) ay):=by
     refine⟨?_,ab.o,aa.o,by omega,M,by omega,by simp;omega,?_⟩;have:=ad.o;unfold YW at this;rwa [aC ao]at this;have o:=x.o;rw[aF lN,aC ao]at o;rw[r.o,o,C3.G3];simp
    have a5:=Aa (My ac.o.rd);clear x r;simp only;go_wp2;go_roundw
    case rel=>exact⟨k,n+1,_,_,ac⟩
    case measure=>rw[a6.o,a5.o];omega
  have S:bt s k=41:=by unfold Mb at E;simpa using E
  have I:=Aa (show Bp (AF s b a) s a i=⟨true,k+1,g.flatMap Prod.snd++(h::rest)⟩by
   have o:=x.o;rw[aF lN,aF S]at o;rw[r.o,o];simp[C3.pre])
  have a8:Hid (Rd ay f s (k+1)):=by
   have:=ad.o;unfold YW at this;rw[aF S]at this;exact this
  clear x r S;simp only;go_wp2;go_ret;rw[I.o];exact⟨rfl,a8.o,aa.o,by omega,fun _=>⟨g++[(q,h::rest)],_,by simpa using ab.o,by simp⟩⟩
theorem HJ(h:p:=by
 rintro e bc⟨rfl,d1,d2,bf,ba⟩;simp only;go_wp2;go_ret;rw[ay.o,a7.o];refine⟨rfl,d1,a.o.fr.trans d2,by have:=a.o.sz;omega,fun h=>?_⟩;obtain⟨bm,ai,aw,al⟩:=ba h;exact⟨bm,ai,by rw[bF jy];simpa using aw,al⟩):p:=h
theorem PP(h:p:=by
 have bk:=a.o.fr.trans (y.fr _ (aB _));have bl:w.heap.size<=w1.heap.size:=by have:=a.o.sz;have:=y.size;omega
 clear r E;simp only;go_wp2;go_ret;rw[bj.o];exact⟨rfl,F,bk,bl,fun h=>by cases h⟩):p:=h
theorem IR(h:p:=by
 refine⟨a2,bb.all,ab.trans a9,by omega,a4,by omega,by simp;omega,by omega,?_⟩;have h:=B.o;rw[aF lN]at h;rw[av.o,h,C3.G3];simp):p:=h
theorem In(h:p:=by
 clear az;go_wp2;go_ret;rw[ay.o,a7.o,ar.o];exact⟨rfl,ac,ab,be,fun _=>⟨z,v,by rw[bJ (by have:=bh.o;omega)];exact aq,rfl⟩⟩):p:=h
theorem IW(h:p:=by
 clear bg bb B av ax a2 a9;simp only;go_wp2;go_roundw
 case rel=>exact⟨au,k+1,_,ai,by go_num,an⟩
 case measure=>simp[intOf];omega):p:=h
theorem H1(h:p:=by
 clear B av;simp only;go_wp2;go_ret;rw[ay.o,ar.o];exact⟨rfl,a2,ab.trans a9,by omega,fun h=>by cases h⟩):p:=h
theorem jy(h:p:=by
 have:=bi.o;omega):p:=h
abbrev kq(h:PLift q->p:=by
 intro aa;have a1:Hid (Eu wr):=ad.o.fr ab h0 kX;have B:=Aa (show loopN (AF s o u) (m-k) p=if(AF s o u p).ok=true then(loopN (AF s o u) (m-(k+1)) (AF s o u p).i).pre (AF s o u p).As else⟨false,(AF s o u p).i,[]⟩by
  rw[show m-k=(m-(k+1))+1 by omega,loopN])
 revert a1 B;exact aa.1):p:=h ⟨z⟩
abbrev ko(h:PLift q->p:=by
 intro aa;have ad:=Aa f;have ap:=Aa am;have aj:=A.Ap.lt;have a:Hid (St s u g b w.heap.size x w i j (w.alloc (.cells x.row 252))):=
  ⟨Ac.alloc af _,A.fr ((Fr.refl _ _ _).alloc (aB _) _) a3,a0,(Fr.refl _ _ _).alloc kX _,by simp,Ac.new _ _ _⟩
 revert ad ap aj a;exact aa.1):p:=h ⟨z⟩
abbrev kr(h:PLift q->p:=by
 intro aa;have ax:=Aa (BA s o u p a8);go_wp2_with fail;rename_i bp a5 a6 bo bq br bu;revert ax bp a5 a6 bo bq br bu;exact aa.1):p:=h ⟨z⟩
abbrev lZ(h:PLift q->p:=by
 intro aa;have ah:=Aa ae;go_enter func172,ntmps172;simp only[Sh.row,ao,ak,ae]at a⊢;revert ah a;exact aa.1):p:=h ⟨z⟩
abbrev mV(h:PLift q->p:=by
 intro aa;have I:Hid (Eu w1):=ad.o.fr a.o.fr h0 kX;have bx:=a.o.box.c5;have J:=Aa (show BC (AF s o u) s u x.n (Aq x s i j)=if x.n<0 then Bp (AF s o u) s u (i+1)else loopN (AF s o u) x.n.toNat (i+1)by unfold BC;rw[bv.o];simp);revert I bx J;exact aa.1):p:=h ⟨z⟩
abbrev mX(h:PLift q->p:=by
 intro aa;have b0:w1.cell? (A0 bz 3)=some (.bool true):=by have h:=a.o.box.cell 3;rw[h,<- bd.o];rfl
 have b1:w1.cell? (A0 bz 4)=some (.bool false):=by have h:=a.o.box.cell 4;rw[h,<- ah.o];rfl
 simp only;revert b0 b1;exact aa.1):p:=h ⟨z⟩
structure TR where
 ok:Bool
 i:Nat
 p:Pt
def Bk(b:Bool)(s:aA)(i:Nat)(a:Pt):TR:=if b then⟨Ay s i 49 52,CX (Ay s i 49 52) i,{a with wd:=bt s i-48}⟩else⟨true,i,a⟩
def tailD(b:Bool)(s:aA)(i:Nat)(a:Pt):TR:=if b then⟨Ay s i 97 104,CX (Ay s i 97 104) i,{a with EZ:=i,dp:=bt s i-97}⟩else⟨true,i,a⟩
def Dz(b:Bool)(s:aA)(i:Nat)(a:Pt):TR:=if b then⟨Gm s i,Ku s i,{a with vl:=AG (bt s i)*16+AG (bt s (i+1))}⟩else⟨true,i,a⟩
def Aq(a:Sh)(s:aA)(i:Nat)(b:Pt):TR:=
 if(Bk a.w s i b).ok then
  if(tailD a.d s (Bk a.w s i b).i (Bk a.w s i b).p).ok then Dz a.v s (tailD a.d s (Bk a.w s i b).i (Bk a.w s i b).p).i (tailD a.d s (Bk a.w s i b).i (Bk a.w s i b).p).p
  else tailD a.d s (Bk a.w s i b).i (Bk a.w s i b).p
 else Bk a.w s i b
def BC(P:Nat->C3)(s:aA)(a:Nat)(n:Int)(t:TR):C3:=if t.ok then(if n<0 then Bp P s a t.i else loopN P n.toNat t.i)else⟨false,t.i,[]⟩
def Hc(s:aA)(h:Nat)(f e:Nat)(w:aE)(q:Pt)(n:Int)(a:C3)(g:Ending)(w':aE):Prop:=
 g=.returned (.bool a.ok)/\Rd w' f s a.i/\Fr e f w w'/\w.heap.size<=w'.heap.size/\(a.ok=true->∃ b j,Mk h w' e (decide (n<0)) {q with v:=j} b/\b.flatMap Prod.snd=a.As)
theorem DG.fr{rb b w w'}(a:DG rb b w w')(B)(g:B<=b):Fr B rb w w':=⟨a.os,a.tape,a.output,by rw[a.size];omega,fun f h e=>a.block f e kX⟩
theorem Mk.step{f}{w w':aE}{_rb e:Nat}{a b}(_h:Mk f w e false a [])(h:Am w' e b)(k:b.v=a.v)(g:a.v=.slice none 0 0):Mk f w' e false b []:=by
 refine⟨h,?_,fun q j=>by simp at j⟩;rw[k,g];exact cC _ _ _ _
theorem Mk.any{a w f h j e}(b:Mk a w f h e []):Mk a w f j e []:=⟨b.Ap,b.row,fun q g=>by simp at g⟩
theorem SS(b s i a):(Aq b s i a).p.sl=a.sl:=by
 unfold Aq Dz tailD Bk;repeat' split
 all_goals rfl
structure AtN (s:aA) (Ig:Int) (f:Nat) (rb pb:Nat) (w:aE) (p:Pt) (m i i' k:Nat) (kids:aD (Nat × aD It)) (v:aI) (wr:aE):Prop where
 rd:Rd wr rb s i'
 made:Mk f wr pb false {p with v:=v} kids
 fr:Fr pb rb w wr
 sz:w.heap.size<=wr.heap.size
 hi:i'<=s.size
 ge:i<=i'
 hk:kids.length<=k
 km:k<=m
 eq:loopN (AF s Ig f) m i=(loopN (AF s Ig f) (m-k) i').pre (kids.flatMap Prod.snd)
theorem Hb(s i a e)(b:Ay s i a e=true)(f:1<=a):i<s.size:=by
 unfold Ay at b;simp at b;exact AT s i kX
structure St (s:aA) (f:Nat) (rb pb bx:Nat) (x:Sh) (w0:aE) (i:Nat) (p:Pt) (w:aE):Prop where
 rd:Rd w rb s i
 made:Mk f w pb false p []
 nil:p.v=.slice none 0 0
 fr:Fr pb rb w0 w
 sz:w0.heap.size<=w.heap.size
 box:Ac w bx x.row 252
theorem St.next{s j b f e u r w w' i o p h}(a:St s j b f e u r i p w)(g:DG b f w w')(x:Rd w' b s o)(v:Am w' f h)(k:h.v=p.v)(y:b<e)(z:f<e):St s j b f e u r o h w':=by
 refine⟨x,a.made.step (_rb:=b) v k a.nil,by rw[k];exact a.nil,a.fr.trans (g.fr _ (aB _)),by rw[g.size];exact a.sz,?_⟩;have:=a.box;unfold Ac at*;rw[g.block e kX kX];exact this
theorem Z6(s i)(a:Gm s i=true):i+1<s.size/\Ku s i=i+2:=by
 unfold Gm at a;simp at a;have b:=KA s (i+1) a.2;refine⟨b.1,?_⟩;unfold Ku;rw[a.1];exact b.2
theorem Vh(s)(o)(V:s.size<=400)(u)(am:E9 s o u)(x)(ca : -1<=x.n)(cb:x.n<=2)(ao:x.w=true)(ak:x.d=true)(ae:x.v=false)(w)(g b i)(j)(af:Rd w g s i)(f:Eu w)(h0:0<g)(a3:g<b)(cn:i<=s.size)(cm:s.size+1-i<=u)(A:Mk u w b false j [])(a0:j.v=.slice none 0 0):
 Calls prog 172 #[P0 g,P0 b,.agg x.row] w fun e w'=>Hc s u g b w (Aq x s i j).p x.n (BC (AF s o u) s u x.n (Aq x s i j)) e w':=by
 refine ko ?_;intro ad ap aj a;have S:=Aa ao;have bd:=Aa ak;refine lZ ?_;intro ah a;clear af A f am a0 ao ak ae;go_wp2_with fail;generalize b8:(w.alloc (.cells #[.int .u8 x.a,.int .u8 x.b,.bool true,.bool true,.bool false,I0 x.n] 252))=b5 at*;clear b8;generalize b9:w.heap.size=bz at*;clear b9;refine(LJ b5 g b s i j a.o.rd a.o.made.Ap kX V kX).mono ?_;rintro e w1⟨rfl,y,I,cd,K,X,E⟩
 cases r:Ay s i 49 52
 have bj:=Aa (show BC (AF s o u) s u x.n (Aq x s i j)=⟨false,i,[]⟩by
  simp[BC,Aq,Bk,S.o,r,CX])
 rw[r]at I;have F:Rd w1 g s (i):=I;exact PP;have E:=E r;subst E;have bx:=Hb s i 49 52 r kX;rw[r]at I;have Z:=Aa r;have F:Rd w1 g s (i+1):=I;have a:=Aa (a.o.next y F K rfl kX kX);clear r I K X y F;refine mX ?_;intro b0 b1;go_wp2_with fail;refine(Hf w1 g b s (i+1) {j with wd:=bt s i-48} a.o.rd a.o.made.Ap kX V kX).mono ?_;rintro e w2⟨rfl,y,I,cd,K,X,E⟩
 cases r:Ay s (i+1) 97 104
 . have bj:=Aa (show BC (AF s o u) s u x.n (Aq x s i j)=⟨false,(i+1),[]⟩by
    simp[BC,Aq,Bk,tailD,S.o,bd.o,r,CX,Z.o])
   rw[r]at I;have F:Rd w2 g s ((i+1)):=I;have bk:=a.o.fr.trans (y.fr _ (aB _));have bl:w.heap.size<=w2.heap.size:=by have:=a.o.sz;have:=y.size;omega
   clear r E;simp only;go_wp2;go_ret;rw[bj.o];exact⟨rfl,F,bk,bl,fun h=>by cases h⟩
 have E:=E r;subst E;have bx:=Hb s (i+1) 97 104 r kX;rw[r]at I;have b3:=Aa r;have F:Rd w2 g s ((i+1)+1):=I;have a:=Aa (a.o.next y F K rfl kX kX);clear r I K X y F;have cl:w2.cell? (A0 bz 4)=some (.bool false):=by have h:=a.o.box.cell 4;rw[h,<- ah.o];rfl
 simp only;go_upto_region 7 with fail;have O:=Aa (show Aq x s i j=⟨true,((i+1)+1),{{j with wd:=bt s i-48}with EZ:=((i+1):Nat),dp:=bt s (i+1)-97}⟩by
  simp[Aq,Bk,tailD,Dz,S.o,bd.o,ah.o,CX,Z.o,b3.o])
 have b4:Hid (Eu w2):=ad.o.fr a.o.fr h0 kX;have b6:=a.o.box.c5;have L:=Aa (show BC (AF s o u) s u x.n (Aq x s i j)=if x.n<0 then Bp (AF s o u) s u ((i+1)+1)else loopN (AF s o u) x.n.toNat ((i+1)+1)by unfold BC;rw[O.o];simp);have a7:=Aa (show(Aq x s i j).p={{j with wd:=bt s i-48}with EZ:=((i+1):Nat),dp:=bt s (i+1)-97}by rw[O.o]);clear O;by_cases J:x.n = -1
 . have b2:(x.n == -1)=true:=by simpa using J
   have ay:=Aa (show BC (AF s o u) s u x.n (Aq x s i j)=Bp (AF s o u) s u ((i+1)+1)by rw[L.o,aF kX]);have bi:=Aa J;clear L J;go_wp2_with fail;refine(Es s o V u ap.o _ g b ((i+1)+1) {{j with wd:=bt s i-48}with EZ:=((i+1):Nat),dp:=bt s (i+1)-97} a.o.rd b4.o h0 a3 kX kX a.o.made.any).mono ?_;exact HJ
 have b2:(x.n == -1)=false:=by simpa using J
 obtain⟨m,M⟩:∃ m:Nat,x.n=(m:Int):=⟨x.n.toNat,by omega⟩;have ay:=Aa (show BC (AF s o u) s u x.n (Aq x s i j)=loopN (AF s o u) m ((i+1)+1)by rw[L.o,aC kX,M];rfl);have bh:=Aa M;rw[M]at b6 b2;have co:m<=2:=kX;clear L J M ca cb;go_wp2;go_loopw [39] (fun Y wr=>∃ (p k:Nat) (z:aD (Nat × aD It)) (v:aI),Y=I0 k/\Hid (AtN s o u g b w {{j with wd:=bt s i-48}with EZ:=((i+1):Nat),dp:=bt s (i+1)-97} m ((i+1)+1) p k z v wr)) (fun Y _=>m-(intOf Y).toNat)
 case atStart=>exact⟨((i+1)+1),0,[],_,rfl,⟨a.o.rd,a.o.made,a.o.fr,a.o.sz,by omega,aB _,by simp,by omega,by simp[C3.pre]⟩⟩
 case round=>
  obtain⟨p,k,z,v,rfl,U⟩:=hrel;have bv:=U;obtain⟨ac,aq,ab,be,a8,ch,ci,cj,az⟩:=U.out;by_cases bx:k<m;refine kq ?_;intro a1 B;have av:=Aa az;refine kr ?_;intro ax _ _ _ _ _ _ _;clear ac aq az U;refine(C7 s o u ap.o wr g b p false {{{j with wd:=bt s i-48}with EZ:=((i+1):Nat),dp:=bt s (i+1)-97}with v:=v} z bv.o.rd a1.o h0 a3 a8 kX bv.o.made kX).mono ?_;rintro e w2⟨rfl,a2,a9,ck,bg⟩;generalize cc:AF s o u p=ce at*;clear cc;obtain⟨cg,au,cf⟩:=ce
  cases cg
  have ar:=Aa (show loopN (AF s o u) m ((i+1)+1)=⟨false,au,z.flatMap Prod.snd⟩by
   have h:=B.o;rw[av.o,h];simp[C3.pre])
  exact H1;obtain⟨q,ai,bb⟩:=bg rfl;obtain⟨a4,b7,_⟩:=ax.o;simp only at a2 a4 b7;have an:Hid (AtN s o u g b w {{j with wd:=bt s i-48}with EZ:=((i+1):Nat),dp:=bt s (i+1)-97} m ((i+1)+1) au (k+1) (z++[(q,cf)]) ai w2):=by
   exact IR
  exact IW;have ar:=Aa (show loopN (AF s o u) m ((i+1)+1)=⟨true,p,z.flatMap Prod.snd⟩by
   rw[az,show m-k=0 by omega];simp[loopN,C3.pre])
  exact In
theorem BS(h:p:=by
 rw[e,t];exact⟨rfl,rfl,fun h=>by cases h⟩):p:=h
theorem Av(h:p:=by
 simp[sh,Ax]at ac;omega):p:=h
abbrev ke(h:PLift q->p:=by
 intro aa;have am:Ay s (a+1) 97 104=false:=by simpa[Ay]using ab
 have e:Ak s a={ok:=false,i:=a+1}:=by simp[Ak,Br,h,CP,kW,kD,AY,ab]
 revert am e;exact aa.1):p:=h ⟨z⟩
abbrev kv(h:PLift q->p:=by
 intro aa;have am:Ay s (a+1) 49 52=false:=by simpa[Ay]using ab
 have e:Ak s a={ok:=false,i:=a+1}:=by simp[Ak,h,CP,kW,AY,ab]
 revert am e;exact aa.1):p:=h ⟨z⟩
def DN(a:Nat)(c:Int)(b:Nat):Pt:={k:=a,pl:=b,ru:=if a=6 then c-65 else 0}
def Match(s:aA)(a b:Nat):Prop:=
 (Ak s a).ok=(Aq (sh b) s (a+1) (DN b (bt s a) a)).ok/\(Ak s a).i=(Aq (sh b) s (a+1) (DN b (bt s a) a)).i/\
   ((Ak s a).ok=true->(Ak s a).inn=(sh b).n/\He (Ak s a).it (Aq (sh b) s (a+1) (DN b (bt s a) a)).p)
theorem TS(s a)(b:65<=bt s a/\bt s a<=72):Match s a 6:=by
 have e:Ak s a={ok:=true,i:=a+1,it:={c:=82,r:=bt s a-65,pl:=a}}:=by unfold Ak;rw[aF b]
 have t:Aq (sh 6) s (a+1) (DN 6 (bt s a) a)=⟨true,a+1,DN 6 (bt s a) a⟩:=by simp[Aq,Bk,tailD,Dz,sh,Ax]
 unfold Match;rw[e,t];exact⟨rfl,rfl,fun _=>⟨rfl,⟨rfl,rfl,rfl,fun _=>⟨rfl,rfl⟩,fun b=>absurd (show kD 82=true from b) lC⟩⟩⟩
theorem W2(s a)(h:bt s a=39):Match s a 2:=by
 unfold Match;by_cases g:AG (bt s (a+1))<0;have e:Ak s a={ok:=false,i:=a+1}:=by simp[Ak,h,g]
 have t:Aq (sh 2) s (a+1) (DN 2 (bt s a) a)=⟨false,a+1,{DN 2 (bt s a) a with vl:=AG (bt s (a+1))*16+AG (bt s (a+1+1))}⟩:=by
  have:CJ s (a+1)=false:=by unfold CJ;simp;omega
  simp[Aq,Bk,tailD,Dz,sh,Ax,Gm,Ku,this]
 exact BS;have k:CJ s (a+1)=true:=by unfold CJ;simp;omega
 by_cases j:AG (bt s (a+2))<0;have e:Ak s a={ok:=false,i:=a+2}:=by simp[Ak,h,g,j]
 have t:Aq (sh 2) s (a+1) (DN 2 (bt s a) a)=⟨false,a+2,{DN 2 (bt s a) a with vl:=AG (bt s (a+1))*16+AG (bt s (a+1+1))}⟩:=by
  have f:CJ s (a+1+1)=false:=by unfold CJ;rw[show a+1+1=a+2 by omega];simp;omega
  simp[Aq,Bk,tailD,Dz,sh,Ax,Gm,Ku,k,f,SJ s (a+1+1) f]
 exact BS;have e:Ak s a={ok:=true,i:=a+3,it:={c:=39,b:=16*AG (bt s (a+1))+AG (bt s (a+2)),pl:=a}}:=by simp[Ak,h,g,j]
 have f:CJ s (a+1+1)=true:=by unfold CJ;rw[show a+1+1=a+2 by omega];simp;omega
 have t:Aq (sh 2) s (a+1) (DN 2 (bt s a) a)=⟨true,a+3,{DN 2 (bt s a) a with vl:=AG (bt s (a+1))*16+AG (bt s (a+1+1))}⟩:=by
  simp[Aq,Bk,tailD,Dz,sh,Ax,Gm,Ku,k,f,(KA s (a+1+1) f).2]
 rw[e,t];exact⟨rfl,rfl,fun _=>⟨rfl,⟨rfl,rfl,(show AG (bt s (a+1))*16+AG (bt s (a+2))=16*AG (bt s (a+1))+AG (bt s (a+2))by omega),fun h=>absurd (show(39:Int)=82 from h) lC,fun h=>absurd (show kD 39=true from h) lC⟩⟩⟩
theorem W3(s a)(h:bt s a=110):Match s a 0:=by
 unfold Match;by_cases ab:49<=bt s (a+1)/\bt s (a+1)<=52;have am:Ay s (a+1) 49 52=true:=by simpa[Ay]using ab
 have e:Ak s a={ok:=true,i:=a+2,inn:=0,it:={c:=110,w:=bt s (a+1)-48,pl:=a}}:=by simp[Ak,Br,h,CP,kW,kD,Jg,AY,ab]
 have t:Aq (sh 0) s (a+1) (DN 0 (bt s a) a)=⟨true,a+2,{DN 0 (bt s a) a with wd:=bt s (a+1)-48}⟩:=by simp[Aq,Bk,tailD,Dz,sh,Ax,CX,am]
 rw[e,t];exact⟨rfl,rfl,fun _=>⟨rfl,⟨(by decide:(0:Int)=IU 110),rfl,rfl,fun h=>absurd (show(110:Int)=82 from h) lC,fun h=>absurd (show kD 110=true from h) lC⟩⟩⟩;refine kv ?_;intro am e;have t:Aq (sh 0) s (a+1) (DN 0 (bt s a) a)=⟨false,a+1,{DN 0 (bt s a) a with wd:=bt s (a+1)-48}⟩:=by simp[Aq,Bk,sh,Ax,CX,am]
 exact BS
theorem WD(s a)(h:bt s a=108):Match s a 1:=by
 unfold Match;by_cases ab:49<=bt s (a+1)/\bt s (a+1)<=52;have am:Ay s (a+1) 49 52=true:=by simpa[Ay]using ab
 have e:Ak s a={ok:=true,i:=a+2,inn:=0,it:={c:=108,w:=bt s (a+1)-48,pl:=a}}:=by simp[Ak,Br,h,CP,kW,kD,Jg,AY,ab]
 have t:Aq (sh 1) s (a+1) (DN 1 (bt s a) a)=⟨true,a+2,{DN 1 (bt s a) a with wd:=bt s (a+1)-48}⟩:=by simp[Aq,Bk,tailD,Dz,sh,Ax,CX,am]
 rw[e,t];exact⟨rfl,rfl,fun _=>⟨rfl,⟨(by decide:(1:Int)=IU 108),rfl,rfl,fun h=>absurd (show(108:Int)=82 from h) lC,fun h=>absurd (show kD 108=true from h) lC⟩⟩⟩;refine kv ?_;intro am e;have t:Aq (sh 1) s (a+1) (DN 1 (bt s a) a)=⟨false,a+1,{DN 1 (bt s a) a with wd:=bt s (a+1)-48}⟩:=by simp[Aq,Bk,sh,Ax,CX,am]
 exact BS
theorem Zg(s a)(b:bt s a=40):Match s a 3:=by
 unfold Match;have e:Ak s a={ok:=true,i:=a+1,inn := -1,it:={c:=40,pl:=a}}:=by simp[Ak,Br,b,CP,kW,kD,Jg,AY]
 have t:Aq (sh 3) s (a+1) (DN 3 (bt s a) a)=⟨true,a+1,DN 3 (bt s a) a⟩:=by simp[Aq,Bk,tailD,Dz,sh,Ax]
 rw[e,t];exact⟨rfl,rfl,fun _=>⟨rfl,⟨(by decide:(3:Int)=IU 40),rfl,rfl,fun b=>absurd (show(40:Int)=82 from b) lC,fun b=>absurd (show kD 40=true from b) lC⟩⟩⟩
theorem match_47(s a)(b:bt s a=47):Match s a 4:=by
 unfold Match;have e:Ak s a={ok:=true,i:=a+1,inn:=2,it:={c:=47,pl:=a}}:=by simp[Ak,Br,b,CP,kW,kD,Jg,AY]
 have t:Aq (sh 4) s (a+1) (DN 4 (bt s a) a)=⟨true,a+1,DN 4 (bt s a) a⟩:=by simp[Aq,Bk,tailD,Dz,sh,Ax]
 rw[e,t];exact⟨rfl,rfl,fun _=>⟨rfl,⟨(by decide:(4:Int)=IU 47),rfl,rfl,fun b=>absurd (show(47:Int)=82 from b) lC,fun b=>absurd (show kD 47=true from b) lC⟩⟩⟩
theorem ZP(s a)(b:bt s a=42):Match s a 5:=by
 unfold Match;have e:Ak s a={ok:=true,i:=a+1,inn:=1,it:={c:=42,pl:=a}}:=by simp[Ak,Br,b,CP,kW,kD,Jg,AY]
 have t:Aq (sh 5) s (a+1) (DN 5 (bt s a) a)=⟨true,a+1,DN 5 (bt s a) a⟩:=by simp[Aq,Bk,tailD,Dz,sh,Ax]
 rw[e,t];exact⟨rfl,rfl,fun _=>⟨rfl,⟨(by decide:(5:Int)=IU 42),rfl,rfl,fun b=>absurd (show(42:Int)=82 from b) lC,fun b=>absurd (show kD 42=true from b) lC⟩⟩⟩
theorem VX(s a)(h:bt s a=104):Match s a 7:=by
 unfold Match;by_cases ab:49<=bt s (a+1)/\bt s (a+1)<=52;have am:Ay s (a+1) 49 52=true:=by simpa[Ay]using ab
 by_cases b:97<=bt s (a+2)/\bt s (a+2)<=104;have f:Ay s (a+1+1) 97 104=true:=by simpa[Ay]using b
 have e:Ak s a={ok:=true,i:=a+3,inn:=0,it:={c:=104,w:=bt s (a+1)-48,d:=bt s (a+2)-97,pl:=((a+2:Nat):Int)}}:=by simp[Ak,Br,h,CP,kW,kD,Jg,AY,ab,b]
 have t:Aq (sh 7) s (a+1) (DN 7 (bt s a) a)=⟨true,a+3,{DN 7 (bt s a) a with wd:=bt s (a+1)-48,EZ:=((a+2:Nat):Int),dp:=bt s (a+2)-97}⟩:=by simp[Aq,Bk,tailD,Dz,sh,Ax,CX,am,f];omega
 rw[e,t];exact⟨rfl,rfl,fun _=>⟨rfl,⟨(by decide:(7:Int)=IU 104),rfl,rfl,fun h=>absurd (show(104:Int)=82 from h) lC,fun _=>⟨rfl,rfl⟩⟩⟩⟩;have f:Ay s (a+1+1) 97 104=false:=by simpa[Ay]using b
 have e:Ak s a={ok:=false,i:=a+2}:=by simp[Ak,Br,h,CP,kW,kD,AY,ab,b]
 have t:Aq (sh 7) s (a+1) (DN 7 (bt s a) a)=⟨false,a+2,{DN 7 (bt s a) a with wd:=bt s (a+1)-48,EZ:=((a+2:Nat):Int),dp:=bt s (a+2)-97}⟩:=by simp[Aq,Bk,tailD,sh,Ax,CX,am,f];omega
 exact BS;refine kv ?_;intro am e;have t:Aq (sh 7) s (a+1) (DN 7 (bt s a) a)=⟨false,a+1,{DN 7 (bt s a) a with wd:=bt s (a+1)-48}⟩:=by simp[Aq,Bk,sh,Ax,CX,am]
 exact BS
theorem WV(s a)(h:bt s a=107):Match s a 8:=by
 unfold Match;by_cases ab:49<=bt s (a+1)/\bt s (a+1)<=52;have am:Ay s (a+1) 49 52=true:=by simpa[Ay]using ab
 by_cases b:97<=bt s (a+2)/\bt s (a+2)<=104;have f:Ay s (a+1+1) 97 104=true:=by simpa[Ay]using b
 have e:Ak s a={ok:=true,i:=a+3,inn:=0,it:={c:=107,w:=bt s (a+1)-48,d:=bt s (a+2)-97,pl:=((a+2:Nat):Int)}}:=by simp[Ak,Br,h,CP,kW,kD,Jg,AY,ab,b]
 have t:Aq (sh 8) s (a+1) (DN 8 (bt s a) a)=⟨true,a+3,{DN 8 (bt s a) a with wd:=bt s (a+1)-48,EZ:=((a+2:Nat):Int),dp:=bt s (a+2)-97}⟩:=by simp[Aq,Bk,tailD,Dz,sh,Ax,CX,am,f];omega
 rw[e,t];exact⟨rfl,rfl,fun _=>⟨rfl,⟨(by decide:(8:Int)=IU 107),rfl,rfl,fun h=>absurd (show(107:Int)=82 from h) lC,fun _=>⟨rfl,rfl⟩⟩⟩⟩;have f:Ay s (a+1+1) 97 104=false:=by simpa[Ay]using b
 have e:Ak s a={ok:=false,i:=a+2}:=by simp[Ak,Br,h,CP,kW,kD,AY,ab,b]
 have t:Aq (sh 8) s (a+1) (DN 8 (bt s a) a)=⟨false,a+2,{DN 8 (bt s a) a with wd:=bt s (a+1)-48,EZ:=((a+2:Nat):Int),dp:=bt s (a+2)-97}⟩:=by simp[Aq,Bk,tailD,sh,Ax,CX,am,f];omega
 exact BS;refine kv ?_;intro am e;have t:Aq (sh 8) s (a+1) (DN 8 (bt s a) a)=⟨false,a+1,{DN 8 (bt s a) a with wd:=bt s (a+1)-48}⟩:=by simp[Aq,Bk,sh,Ax,CX,am]
 exact BS
theorem Xl(s a)(h:bt s a=114):Match s a 9:=by
 unfold Match;by_cases ab:97<=bt s (a+1)/\bt s (a+1)<=104;have am:Ay s (a+1) 97 104=true:=by simpa[Ay]using ab
 have e:Ak s a={ok:=true,i:=a+2,inn:=0,it:={c:=114,d:=bt s (a+1)-97,pl:=((a+1:Nat):Int)}}:=by simp[Ak,Br,h,CP,kW,kD,Jg,AY,ab]
 have t:Aq (sh 9) s (a+1) (DN 9 (bt s a) a)=⟨true,a+2,{DN 9 (bt s a) a with EZ:=((a+1:Nat):Int),dp:=bt s (a+1)-97}⟩:=by simp[Aq,Bk,tailD,Dz,sh,Ax,CX,am]
 rw[e,t];exact⟨rfl,rfl,fun _=>⟨rfl,⟨(by decide:(9:Int)=IU 114),rfl,rfl,fun h=>absurd (show(114:Int)=82 from h) lC,fun _=>⟨rfl,rfl⟩⟩⟩⟩;refine ke ?_;intro am e;have t:Aq (sh 9) s (a+1) (DN 9 (bt s a) a)=⟨false,a+1,{DN 9 (bt s a) a with EZ:=((a+1:Nat):Int),dp:=bt s (a+1)-97}⟩:=by simp[Aq,Bk,tailD,sh,Ax,CX,am]
 exact BS
theorem V6(s a)(h:bt s a=116):Match s a 10:=by
 unfold Match;by_cases ab:97<=bt s (a+1)/\bt s (a+1)<=104;have am:Ay s (a+1) 97 104=true:=by simpa[Ay]using ab
 have e:Ak s a={ok:=true,i:=a+2,inn:=1,it:={c:=116,d:=bt s (a+1)-97,pl:=((a+1:Nat):Int)}}:=by simp[Ak,Br,h,CP,kW,kD,Jg,AY,ab]
 have t:Aq (sh 10) s (a+1) (DN 10 (bt s a) a)=⟨true,a+2,{DN 10 (bt s a) a with EZ:=((a+1:Nat):Int),dp:=bt s (a+1)-97}⟩:=by simp[Aq,Bk,tailD,Dz,sh,Ax,CX,am]
 rw[e,t];exact⟨rfl,rfl,fun _=>⟨rfl,⟨(by decide:(10:Int)=IU 116),rfl,rfl,fun h=>absurd (show(116:Int)=82 from h) lC,fun _=>⟨rfl,rfl⟩⟩⟩⟩;refine ke ?_;intro am e;have t:Aq (sh 10) s (a+1) (DN 10 (bt s a) a)=⟨false,a+1,{DN 10 (bt s a) a with EZ:=((a+1:Nat):Int),dp:=bt s (a+1)-97}⟩:=by simp[Aq,Bk,tailD,sh,Ax,CX,am]
 exact BS
theorem Ws(s a)(h:bt s a=119):Match s a 11:=by
 unfold Match;by_cases ab:97<=bt s (a+1)/\bt s (a+1)<=104;have am:Ay s (a+1) 97 104=true:=by simpa[Ay]using ab
 have e:Ak s a={ok:=true,i:=a+2,inn:=1,it:={c:=119,d:=bt s (a+1)-97,pl:=((a+1:Nat):Int)}}:=by simp[Ak,Br,h,CP,kW,kD,Jg,AY,ab]
 have t:Aq (sh 11) s (a+1) (DN 11 (bt s a) a)=⟨true,a+2,{DN 11 (bt s a) a with EZ:=((a+1:Nat):Int),dp:=bt s (a+1)-97}⟩:=by simp[Aq,Bk,tailD,Dz,sh,Ax,CX,am]
 rw[e,t];exact⟨rfl,rfl,fun _=>⟨rfl,⟨(by decide:(11:Int)=IU 119),rfl,rfl,fun h=>absurd (show(119:Int)=82 from h) lC,fun _=>⟨rfl,rfl⟩⟩⟩⟩;refine ke ?_;intro am e;have t:Aq (sh 11) s (a+1) (DN 11 (bt s a) a)=⟨false,a+1,{DN 11 (bt s a) a with EZ:=((a+1:Nat):Int),dp:=bt s (a+1)-97}⟩:=by simp[Aq,Bk,tailD,sh,Ax,CX,am]
 exact BS
theorem Yl(s a)(h:bt s a=64):Match s a 12:=by
 unfold Match;by_cases ab:97<=bt s (a+1)/\bt s (a+1)<=104;have am:Ay s (a+1) 97 104=true:=by simpa[Ay]using ab
 have e:Ak s a={ok:=true,i:=a+2,inn:=1,it:={c:=64,d:=bt s (a+1)-97,pl:=((a+1:Nat):Int)}}:=by simp[Ak,Br,h,CP,kW,kD,Jg,AY,ab]
 have t:Aq (sh 12) s (a+1) (DN 12 (bt s a) a)=⟨true,a+2,{DN 12 (bt s a) a with EZ:=((a+1:Nat):Int),dp:=bt s (a+1)-97}⟩:=by simp[Aq,Bk,tailD,Dz,sh,Ax,CX,am]
 rw[e,t];exact⟨rfl,rfl,fun _=>⟨rfl,⟨(by decide:(12:Int)=IU 64),rfl,rfl,fun h=>absurd (show(64:Int)=82 from h) lC,fun _=>⟨rfl,rfl⟩⟩⟩⟩;refine ke ?_;intro am e;have t:Aq (sh 12) s (a+1) (DN 12 (bt s a) a)=⟨false,a+1,{DN 12 (bt s a) a with EZ:=((a+1:Nat):Int),dp:=bt s (a+1)-97}⟩:=by simp[Aq,Bk,tailD,sh,Ax,CX,am]
 exact BS
theorem Wu(s a)(h:bt s a=115):Match s a 13:=by
 unfold Match;by_cases ab:97<=bt s (a+1)/\bt s (a+1)<=104;have am:Ay s (a+1) 97 104=true:=by simpa[Ay]using ab
 have e:Ak s a={ok:=true,i:=a+2,inn:=1,it:={c:=115,d:=bt s (a+1)-97,pl:=((a+1:Nat):Int)}}:=by simp[Ak,Br,h,CP,kW,kD,Jg,AY,ab]
 have t:Aq (sh 13) s (a+1) (DN 13 (bt s a) a)=⟨true,a+2,{DN 13 (bt s a) a with EZ:=((a+1:Nat):Int),dp:=bt s (a+1)-97}⟩:=by simp[Aq,Bk,tailD,Dz,sh,Ax,CX,am]
 rw[e,t];exact⟨rfl,rfl,fun _=>⟨rfl,⟨(by decide:(13:Int)=IU 115),rfl,rfl,fun h=>absurd (show(115:Int)=82 from h) lC,fun _=>⟨rfl,rfl⟩⟩⟩⟩;refine ke ?_;intro am e;have t:Aq (sh 13) s (a+1) (DN 13 (bt s a) a)=⟨false,a+1,{DN 13 (bt s a) a with EZ:=((a+1:Nat):Int),dp:=bt s (a+1)-97}⟩:=by simp[Aq,Bk,tailD,sh,Ax,CX,am]
 exact BS
theorem Y0(s a)(b:bt s a=46):Match s a 14:=by
 unfold Match;have e:Ak s a={ok:=true,i:=a+1,inn:=0,it:={c:=46,pl:=a}}:=by simp[Ak,Br,b,CP,kW,kD,Jg,AY]
 have t:Aq (sh 14) s (a+1) (DN 14 (bt s a) a)=⟨true,a+1,DN 14 (bt s a) a⟩:=by simp[Aq,Bk,tailD,Dz,sh,Ax]
 rw[e,t];exact⟨rfl,rfl,fun _=>⟨rfl,⟨(by decide:(14:Int)=IU 46),rfl,rfl,fun b=>absurd (show(46:Int)=82 from b) lC,fun b=>absurd (show kD 46=true from b) lC⟩⟩⟩
theorem W7(s a f)(b:CC (bt s a)=f)(e:f<15):Match s a f:=by
 have ac:=G5 _ _ b e;refine ka ?_;intro ab;rcases ab with rfl|rfl|rfl|rfl|rfl|rfl|rfl|rfl|rfl|rfl|rfl|rfl|rfl|rfl|rfl;exact W3 s a Av;exact WD s a Av;exact W2 s a Av;exact Zg s a Av;exact match_47 s a Av;exact ZP s a Av;exact TS s a (by simpa[sh,Ax]using ac);exact VX s a Av;exact WV s a Av;exact Xl s a Av;exact V6 s a Av;exact Ws s a Av;exact Yl s a Av;exact Wu s a Av;exact Y0 s a Av
theorem T8(s b)(f:CC (bt s b)=15):Ak s b={ok:=false,i:=b}:=by
 have g:∀ e,e∈Ax->¬ (e.a<=bt s b/\bt s b<=e.b):=by
  intro e h;unfold CC at f;rw[show(15:Nat)=Ax.length from rfl,kB]at f;have:=f e h;simpa using this
 simp[Ax]at g;obtain⟨j,k,x,y,z,A,B,E,F,I,o,p,r,u,v⟩:=g;unfold Ak;rw[aC kX,aC kX,aC ?_];intro a;simp only[CP,AY,cQ,dG,cN,cH,dA]at a;rcases a with a|a|a|a|a|a|a|a|a|a|a|a|a<;>simp at a<;>omega
theorem Agr(f)(a:f<15) : -1<=(sh f).n/\(sh f).n<=2:=by
 refine ka ?_;intro ab;rcases ab with rfl|rfl|rfl|rfl|rfl|rfl|rfl|rfl|rfl|rfl|rfl|rfl|rfl|rfl|rfl<;>decide
theorem Z3(s)(o)(bz:s.size<=400)(u)(am:E9 s o u)(x)(b6 : -1<=x.n)(b7:x.n<=2)(ao:x.w=true)(ak:x.d=false)(ae:x.v=false)(w)(g b i)(j)(af:Rd w g s i)(f:Eu w)(h0:0<g)(a3:g<b)(ck:i<=s.size)(cj:s.size+1-i<=u)(A:Mk u w b false j [])(a0:j.v=.slice none 0 0):
 Calls prog 172 #[P0 g,P0 b,.agg x.row] w fun e w'=>Hc s u g b w (Aq x s i j).p x.n (BC (AF s o u) s u x.n (Aq x s i j)) e w':=by
 refine ko ?_;intro ad ap aj a;have V:=Aa ao;have U:=Aa ak;refine lZ ?_;intro ah a;clear af A f am a0 ao ak ae;go_wp2_with fail;generalize b3:(w.alloc (.cells #[.int .u8 x.a,.int .u8 x.b,.bool true,.bool false,.bool false,I0 x.n] 252))=b1 at*;clear b3;generalize b4:w.heap.size=Y at*;clear b4;refine(LJ b1 g b s i j a.o.rd a.o.made.Ap kX bz kX).mono ?_;rintro e w1⟨rfl,y,L,cm,bd,b9,E⟩
 cases r:Ay s i 49 52
 have bj:=Aa (show BC (AF s o u) s u x.n (Aq x s i j)=⟨false,i,[]⟩by
  simp[BC,Aq,Bk,V.o,r,CX])
 rw[r]at L;have F:Rd w1 g s (i):=L;exact PP;have E:=E r;subst E;have b5:=Hb s i 49 52 r kX;rw[r]at L;have b0:=Aa r;have F:Rd w1 g s (i+1):=L;have a:=Aa (a.o.next y F bd rfl kX kX);clear r L bd b9 y F;have ch:w1.cell? (A0 Y 3)=some (.bool false):=by have h:=a.o.box.cell 3;rw[h,<- U.o];rfl
 have ci:w1.cell? (A0 Y 4)=some (.bool false):=by have h:=a.o.box.cell 4;rw[h,<- ah.o];rfl
 simp only;go_upto_region 7 with fail;have bv:=Aa (show Aq x s i j=⟨true,(i+1),{j with wd:=bt s i-48}⟩by
  simp[Aq,Bk,tailD,Dz,V.o,U.o,ah.o,CX,b0.o])
 refine mV ?_;intro I bx J;have a7:=Aa (show(Aq x s i j).p={j with wd:=bt s i-48}by rw[bv.o]);clear bv;by_cases K:x.n = -1
 . have Z:(x.n == -1)=true:=by simpa using K
   have ay:=Aa (show BC (AF s o u) s u x.n (Aq x s i j)=Bp (AF s o u) s u (i+1)by rw[J.o,aF kX]);have bi:=Aa K;clear J K;go_wp2_with fail;refine(Es s o bz u ap.o _ g b (i+1) {j with wd:=bt s i-48} a.o.rd I.o h0 a3 kX kX a.o.made.any).mono ?_;exact HJ
 have Z:(x.n == -1)=false:=by simpa using K
 obtain⟨m,M⟩:∃ m:Nat,x.n=(m:Int):=⟨x.n.toNat,by omega⟩;have ay:=Aa (show BC (AF s o u) s u x.n (Aq x s i j)=loopN (AF s o u) m (i+1)by rw[J.o,aC kX,M];rfl);have bh:=Aa M;rw[M]at bx Z;have cl:m<=2:=kX;clear J K M b6 b7;go_wp2;go_loopw [39] (fun S wr=>∃ (p k:Nat) (z:aD (Nat × aD It)) (v:aI),S=I0 k/\Hid (AtN s o u g b w {j with wd:=bt s i-48} m (i+1) p k z v wr)) (fun S _=>m-(intOf S).toNat)
 case atStart=>exact⟨(i+1),0,[],_,rfl,⟨a.o.rd,a.o.made,a.o.fr,a.o.sz,by omega,aB _,by simp,by omega,by simp[C3.pre]⟩⟩
 case round=>
  obtain⟨p,k,z,v,rfl,O⟩:=hrel;have X:=O;obtain⟨ac,aq,ab,be,a8,cd,ce,cf,az⟩:=O.out;by_cases b5:k<m;refine kq ?_;intro a1 B;have av:=Aa az;refine kr ?_;intro ax _ _ _ _ _ _ _;clear ac aq az O;refine(C7 s o u ap.o wr g b p false {{j with wd:=bt s i-48}with v:=v} z X.o.rd a1.o h0 a3 a8 kX X.o.made kX).mono ?_;rintro e w2⟨rfl,a2,a9,cg,bg⟩;generalize b8:AF s o u p=ca at*;clear b8;obtain⟨cc,au,cb⟩:=ca
  cases cc
  have ar:=Aa (show loopN (AF s o u) m (i+1)=⟨false,au,z.flatMap Prod.snd⟩by
   have h:=B.o;rw[av.o,h];simp[C3.pre])
  exact H1;obtain⟨q,ai,bb⟩:=bg rfl;obtain⟨a4,b2,_⟩:=ax.o;simp only at a2 a4 b2;have an:Hid (AtN s o u g b w {j with wd:=bt s i-48} m (i+1) au (k+1) (z++[(q,cb)]) ai w2):=by
   exact IR
  exact IW;have ar:=Aa (show loopN (AF s o u) m (i+1)=⟨true,p,z.flatMap Prod.snd⟩by
   rw[az,show m-k=0 by omega];simp[loopN,C3.pre])
  exact In
def bn(s:aA)(i:Nat):Nat:=(bt s i).toNat
theorem LC(s i):bn s i<256:=by have:=Eh s i;have:=FT s i;unfold bn;omega
theorem F0(s i):((bn s i:Nat):Int)=bt s i:=by have:=Eh s i;unfold bn;omega
def hiV(a:aA):Nat->Nat
 | 0=>0
 | i+1=>hiV a i*256+bn a i
def Mm(a:aA):Nat->Nat
 | 0=>0
 | i+1=>Mm a i+bn a i*256 ^ i
def CB(a:aA)(w:Nat):Nat->Nat
 | 0=>0
 | i+1=>(CB a w i*31+bn a i) % 256 ^ w
theorem Qo(a i):hiV a i<256 ^ i:=by
 induction i with
 | zero=>simp[hiV]
 | succ i b=>have:=LC a i;rw[hiV,fC];omega
theorem UA(a i):Mm a i<256 ^ i:=by
 induction i with
 | zero=>simp[Mm]
 | succ i e=>
  have b:=LC a i;have:bn a i*256 ^ i<=255*256 ^ i:=fK _ kX;rw[Mm,fC];omega
theorem FX(a w i):CB a w i<256 ^ w:=by
 cases i with
 | zero=>exact iA kX
 | succ i=>exact Nat.mod_lt _ (iA kX)
theorem DS(i)(a:i<=4):256 ^ i<=4294967296:=by
 have:256 ^ i<=256^4:=kO kX a;omega
theorem JK(i)(a:i<=3):256 ^ i<=16777216:=by
 have:256 ^ i<=256^3:=kO kX a;omega
theorem Mt(a):IntKind.u32.wrap a=a % 4294967296:=by first|exact hH a|rfl|(simp[IntKind.wrap])
theorem bits_nat(a b:Nat)(g:a<4294967296)(h:b<4294967296):bits .or .u32 (a:Int) (b:Int)=((a ||| b:Nat):Int)/\bits .and .u32 (a:Int) (b:Int)=((a &&& b:Nat):Int):=by
 have e:(BitVec.ofInt 32 (a:Int)).toNat=a:=by rw[kR,BitVec.toNat_ofNat];exact Nat.mod_eq_of_lt kX
 have f:(BitVec.ofInt 32 (b:Int)).toNat=b:=by rw[kR,BitVec.toNat_ofNat];exact Nat.mod_eq_of_lt kX
 have j:a ||| b<2^32:=Nat.or_lt_two_pow kX kX;have k:a &&& b<2^32:=Nat.and_lt_two_pow _ kX;constructor;have:bits .or .u32 (a:Int) (b:Int)=IntKind.u32.wrap ((BitVec.ofInt 32 (a:Int) ||| BitVec.ofInt 32 (b:Int)).toNat:Int):=rfl;rw[this,BitVec.toNat_or,e,f,Mt];omega;have:bits .and .u32 (a:Int) (b:Int)=IntKind.u32.wrap ((BitVec.ofInt 32 (a:Int) &&& BitVec.ofInt 32 (b:Int)).toNat:Int):=rfl;rw[this,BitVec.toNat_and,e,f,Mt];omega
theorem XQ(a c i)(b:c<2 ^ i):(a*2 ^ i) ||| c=a*2 ^ i+c:=by
 have:=Nat.two_pow_add_eq_or_of_lt b a;rw[dB a];exact this.symm
theorem Un(i):(256:Nat) ^ i=2 ^ (8*i):=by rw[kN]

/- The library contracts at this dump, as the kit prints them in plain words; its remarks are struck. -/
import Derived.Shelf.Strings.Builder1
import Derived.Shelf.Strings.BuilderF
import Derived.Shelf.Strings.BuilderK
import Derived.Shelf.Strconv.Itoa0
import Derived.Shelf.Strconv.Itoa1
import Derived.Shelf.LaysM
import Derived.Shelf.Strconv.Itoa2
import Derived.Test.YtmlkhhhjdpbhfaaGreatDoorProg
namespace Go.Proofs.Tryz
open Go.Shelf
def lays169_ren:Go.Shelf.Ren:=⟨fun | 169=>65 | n=>n,fun | 70=>161 | 9=>9 | 0=>0 | 72=>163 | 37=>40 | 127=>226 | 3=>3 | 5=>5 | n=>n,fun | n=>n⟩
theorem lays169:Go.Proofs.Lays.n169 prog lays169_ren:={mixed:=by kernel_rfl,f169:=func65.trans (congrArg some (by kernel_rfl)),t0:=underlying0,a0:=isAgg0,z0:=sizeOf0,v0:=zeroValue0,t3:=underlying3,a3:=isAgg3,z3:=sizeOf3,v3:=zeroValue3,t9:=underlying9,a9:=isAgg9,z9:=sizeOf9,v9:=zeroValue9,t37:=underlying40,a37:=isAgg40,z37:=sizeOf40,v37:=zeroValue40,t70:=underlying161,a70:=isAgg161,z70:=sizeOf161,v70:=zeroValue161,t72:=underlying163,a72:=isAgg163,z72:=sizeOf163,v72:=zeroValue163,t127:=underlying226,a127:=isAgg226,z127:=sizeOf226,v127:=zeroValue226}
theorem Builder_Extra_169:Builder.Extra prog lays169_ren:={sizeBuilder:=by kernel_rfl,liesBuilder:=by kernel_rfl,t5:=underlying5,a5:=isAgg5,z5:=sizeOf5,v5:=zeroValue5,infoByte:=by kernel_rfl,cellsByte:=by kernel_rfl,sizeByte:=by kernel_rfl,neB5:=by decide}
open Go.RowKit in
theorem Builder_String_any_k (B b:Nat)(l:List UInt8)(w:World)(h:Lib.IsBuilderF 163 5 B b (Lib.byteCells l) w)(hBw:B≤w.heap.size):
 Calls prog 65 #[.pointer (some ⟨b,0,none⟩)] w fun e w'=>e=.returned (.string ⟨l.toArray⟩)∧(Lib.IsBuilderF 163 5 B b (Lib.byteCells l) w'∧Below B w w'∧Lib.OthersKept 5 (some b) w w'):=Any.Builder_String_any_k lays169 Builder_Extra_169 B b l w h hBw
def lays283_ren:Go.Shelf.Ren:=⟨fun | 283=>200 | n=>n,fun | 3=>3 | 9=>9 | 4=>4 | n=>n,fun | n=>n⟩
theorem lays283:Go.Proofs.Lays.n283 prog lays283_ren:={mixed:=by kernel_rfl,f283:=func200.trans (congrArg some (by kernel_rfl)),t3:=underlying3,a3:=isAgg3,z3:=sizeOf3,v3:=zeroValue3,t4:=underlying4,a4:=isAgg4,z4:=sizeOf4,v4:=zeroValue4,t9:=underlying9,a9:=isAgg9,z9:=sizeOf9,v9:=zeroValue9}
open Go.Lib in
theorem internal_strconv_small (i:Nat)(h:i<100)(w:World):
 Calls prog 200 #[.int .i64 i] w fun e w'=>e=.returned (.string ⟨(Lib.decDigits i).toArray⟩)∧w'=w:=Any.internal_strconv_small lays283 i h w
def laysM284_ren:Go.Shelf.Ren:=⟨fun | 284=>201 | 129=>208 | 317=>207 | 318=>209 | n=>n,fun | 53=>222 | 3=>3 | 212=>291 | 0=>0 | 4=>4 | 46=>257 | 5=>5 | 9=>9 | n=>n,fun | 17=>1 | n=>n⟩
theorem laysM284:Go.Proofs.LaysM.n284 prog laysM284_ren:={mixed:=by kernel_rfl,f129:=func208.trans (congrArg some (by kernel_rfl)),f284:=func201.trans (congrArg some (by kernel_rfl)),f317:=func207.trans (congrArg some (by kernel_rfl)),f318:=func209.trans (congrArg some (by kernel_rfl)),t0:=underlying0,a0:=isAgg0,z0:=sizeOf0,v0:=zeroValue0,t3:=underlying3,a3:=isAgg3,z3:=sizeOf3,v3:=zeroValue3,t4:=underlying4,a4:=isAgg4,z4:=sizeOf4,v4:=zeroValue4,t5:=underlying5,a5:=isAgg5,z5:=sizeOf5,v5:=zeroValue5,t9:=underlying9,a9:=isAgg9,z9:=sizeOf9,v9:=zeroValue9,t46:=underlying257,a46:=isAgg257,z46:=sizeOf257,v46:=zeroValue257,t53:=underlying222,a53:=isAgg222,z53:=sizeOf222,v53:=zeroValue222,t212:=underlying291,a212:=isAgg291,z212:=sizeOf291,v212:=zeroValue291,g17:=by kernel_rfl,i0:=by kernel_rfl,i3:=by kernel_rfl,i4:=by kernel_rfl,i5:=by kernel_rfl,i9:=by kernel_rfl,i46:=by kernel_rfl,i53:=by kernel_rfl,i212:=by kernel_rfl,m17:=by kernel_rfl}
open Go.Lib in
theorem internal_strconv_numDigits (u:Nat)(h1:1≤u)(h2:u<18446744073709551616)(w:World)(htab:Lib.TabIs prog w "internal/strconv.uint64pow10" .u64 Lib.pow10Tab):
 Calls prog 201 #[.int .u64 u] w fun e w'=>e=.returned (.int .i64 (Lib.nDigits u))∧w'=w:=Any.internal_strconv_numDigits laysM284 u h1 h2 w htab
def lays285_ren:Go.Shelf.Ren:=⟨fun | 285=>202 | n=>n,fun | 37=>40 | 53=>222 | 3=>3 | 4=>4 | 51=>174 | 9=>9 | 5=>5 | 0=>0 | n=>n,fun | n=>n⟩
theorem lays285:Go.Proofs.Lays.n285 prog lays285_ren:={mixed:=by kernel_rfl,f285:=func202.trans (congrArg some (by kernel_rfl)),t0:=underlying0,a0:=isAgg0,z0:=sizeOf0,v0:=zeroValue0,t3:=underlying3,a3:=isAgg3,z3:=sizeOf3,v3:=zeroValue3,t4:=underlying4,a4:=isAgg4,z4:=sizeOf4,v4:=zeroValue4,t5:=underlying5,a5:=isAgg5,z5:=sizeOf5,v5:=zeroValue5,t9:=underlying9,a9:=isAgg9,z9:=sizeOf9,v9:=zeroValue9,t37:=underlying40,a37:=isAgg40,z37:=sizeOf40,v37:=zeroValue40,t51:=underlying174,a51:=isAgg174,z51:=sizeOf174,v51:=zeroValue174,t53:=underlying222,a53:=isAgg222,z53:=sizeOf222,v53:=zeroValue222}
open Go.RowKit Go.Sort Go.Lib in
theorem internal_strconv_formatBase10 (blk off cap:Nat)(u:Nat)(d:Array UInt8)(w:World)(hH:Holds (fun (b:UInt8)=>Value.int .u8 b.toNat) w blk off d)(hu:u<10 ^ d.size)(hu64:u<18446744073709551616)(hsz:d.size<4611686018427387904):
 Calls prog 202 #[.slice (some ⟨blk,off,none⟩) d.size cap,.int .u64 u] w fun e w'=>
  e=.returned (.tuple #[])∧∃ (n v':Nat) (dk:Array UInt8),w'=(putRow (fun (b:UInt8)=>Value.int .u8 b.toNat) w blk off dk).drewN n∧FmtInv d.size u 0 v' dk:=Any.internal_strconv_formatBase10 lays285 blk off cap u d w hH hu hu64 hsz

import Derived.Shelf.Small.Strs
import Derived.Shelf.Small.Wraps
import Derived.Shelf.Strconv.Itoa0
import Derived.Shelf.Strconv.Itoa1
import Derived.Shelf.LaysM
import Derived.Shelf.Strconv.Itoa2
import Derived.Shelf.Strconv.Itoa3
import Derived.Shelf.Strconv.Itoa4
import Derived.Shelf.Strconv.Clone
import Derived.Shelf.Strings.Search1
import Derived.Shelf.Strings.Prefix
import Derived.Shelf.Spec.TrailingZeros
import Derived.Test.YtknkedihmmbanaaDoorProg
open Go.Proofs.Tryd
namespace Go.Proofs
open Go.Shelf
def Tryd.lays137_ren:Go.Shelf.Ren:=⟨fun|137=>66|217=>81|266=>88|n=>n,fun|9=>9|5=>5|3=>3|n=>n,fun|n=>n⟩
theorem Tryd.lays137:Go.Proofs.Lays.n137 prog Tryd.lays137_ren:={
 mixed:=by kernel_rfl
 f137:=func66.trans (congrArg some (by kernel_rfl))
 f217:=func81.trans (congrArg some (by kernel_rfl))
 f266:=func88.trans (congrArg some (by kernel_rfl))
 t3:=underlying3
 a3:=Tryd.isAgg3
 z3:=Tryd.sizeOf3
 v3:=Tryd.zeroValue3
 t5:=underlying5
 a5:=Tryd.isAgg5
 z5:=Tryd.sizeOf5
 v5:=Tryd.zeroValue5
 t9:=underlying9
 a9:=Tryd.isAgg9
 z9:=Tryd.sizeOf9
 v9:=Tryd.zeroValue9 }
open Go.RowKit in
theorem Tryd.strings_IndexByte(s:ByteArray)(c:Int)(w:World) :
  Calls prog 66 #[.string s,.int .u8 c] w λe w'=>e=.returned (.int .i64 (Lib.indexByte s.data.toList c.toNat.toUInt8))/\w'=w:=Any.strings_IndexByte Tryd.lays137 s c w
def Tryd.lays103_ren:Go.Shelf.Ren:=⟨fun|103=>41|210=>65|206=>73|n=>n,fun|9=>9|4=>4|24=>73|3=>3|n=>n,fun|n=>n⟩
theorem Tryd.lays103:Go.Proofs.Lays.n103 prog Tryd.lays103_ren:={
 mixed:=by kernel_rfl
 f103:=func41.trans (congrArg some (by kernel_rfl))
 f206:=func73.trans (congrArg some (by kernel_rfl))
 f210:=func65.trans (congrArg some (by kernel_rfl))
 t3:=underlying3
 a3:=Tryd.isAgg3
 z3:=Tryd.sizeOf3
 v3:=Tryd.zeroValue3
 t4:=underlying4
 a4:=Tryd.isAgg4
 z4:=Tryd.sizeOf4
 v4:=Tryd.zeroValue4
 t9:=underlying9
 a9:=Tryd.isAgg9
 z9:=Tryd.sizeOf9
 v9:=Tryd.zeroValue9
 t24:=underlying73
 a24:=Tryd.isAgg73
 z24:=Tryd.sizeOf73
 v24:=Tryd.zeroValue73 }
open Go.RowKit in
theorem Tryd.strings_CutPrefix(s p:ByteArray)(w:World) :
  Calls prog 41 #[.string s,.string p] w λe w'=>e=.returned (.tuple #[.string ⟨(Lib.trimPrefix s.data.toList p.data.toList).toArray⟩,.bool (Lib.hasPrefix s.data.toList p.data.toList)])/\w'=w:=Any.strings_CutPrefix Tryd.lays103 s p w
def Tryd.lays129_ren:Go.Shelf.Ren:=⟨fun|129=>45|n=>n,fun|53=>28|3=>3|4=>4|46=>80|5=>5|9=>9|n=>n,fun|n=>n⟩
theorem Tryd.lays129:Go.Proofs.Lays.n129 prog Tryd.lays129_ren:={
 mixed:=by kernel_rfl
 f129:=func45.trans (congrArg some (by kernel_rfl))
 t3:=underlying3
 a3:=Tryd.isAgg3
 z3:=Tryd.sizeOf3
 v3:=Tryd.zeroValue3
 t4:=underlying4
 a4:=Tryd.isAgg4
 z4:=Tryd.sizeOf4
 v4:=Tryd.zeroValue4
 t5:=underlying5
 a5:=Tryd.isAgg5
 z5:=Tryd.sizeOf5
 v5:=Tryd.zeroValue5
 t9:=underlying9
 a9:=Tryd.isAgg9
 z9:=Tryd.sizeOf9
 v9:=Tryd.zeroValue9
 t46:=underlying80
 a46:=Tryd.isAgg80
 z46:=Tryd.sizeOf80
 v46:=Tryd.zeroValue80
 t53:=underlying28
 a53:=Tryd.isAgg28
 z53:=Tryd.sizeOf28
 v53:=Tryd.zeroValue28 }
theorem Tryd.bits_Len64(x:Int)(w:World)(h0:0<=x)(h1:x<=18446744073709551615) :
  Calls prog 45 #[.int .u64 x] w λe w'=>e=.returned (.int .i64 (Lib.bitLen x.toNat))/\w'=w:=Any.bits_Len64 Tryd.lays129 x w h0 h1
def Tryd.laysM171_ren:Go.Shelf.Ren:=⟨fun|171=>64|243=>80|246=>63|283=>76|284=>77|285=>78|286=>79|129=>45|317=>84|318=>85|319=>86|320=>87|337=>89|338=>44|n=>n,fun|3=>3|9=>9|2=>2|4=>4|171=>99|0=>0|53=>28|37=>36|5=>5|173=>101|212=>107|51=>108|20=>20|213=>109|46=>80|232=>113|233=>93|n=>n,fun|17=>2|18=>4|19=>1|n=>n⟩
theorem Tryd.laysM171:Go.Proofs.LaysM.n171 prog Tryd.laysM171_ren:={
 mixed:=by kernel_rfl
 f129:=func45.trans (congrArg some (by kernel_rfl))
 f171:=func64.trans (congrArg some (by kernel_rfl))
 f243:=func80.trans (congrArg some (by kernel_rfl))
 f246:=func63.trans (congrArg some (by kernel_rfl))
 f283:=func76.trans (congrArg some (by kernel_rfl))
 f284:=func77.trans (congrArg some (by kernel_rfl))
 f285:=func78.trans (congrArg some (by kernel_rfl))
 f286:=func79.trans (congrArg some (by kernel_rfl))
 f317:=func84.trans (congrArg some (by kernel_rfl))
 f318:=func85.trans (congrArg some (by kernel_rfl))
 f319:=func86.trans (congrArg some (by kernel_rfl))
 f320:=func87.trans (congrArg some (by kernel_rfl))
 f337:=func89.trans (congrArg some (by kernel_rfl))
 f338:=func44.trans (congrArg some (by kernel_rfl))
 t0:=underlying0
 a0:=Tryd.isAgg0
 z0:=Tryd.sizeOf0
 v0:=Tryd.zeroValue0
 t2:=underlying2
 a2:=Tryd.isAgg2
 z2:=Tryd.sizeOf2
 v2:=Tryd.zeroValue2
 t3:=underlying3
 a3:=Tryd.isAgg3
 z3:=Tryd.sizeOf3
 v3:=Tryd.zeroValue3
 t4:=underlying4
 a4:=Tryd.isAgg4
 z4:=Tryd.sizeOf4
 v4:=Tryd.zeroValue4
 t5:=underlying5
 a5:=Tryd.isAgg5
 z5:=Tryd.sizeOf5
 v5:=Tryd.zeroValue5
 t9:=underlying9
 a9:=Tryd.isAgg9
 z9:=Tryd.sizeOf9
 v9:=Tryd.zeroValue9
 t20:=underlying20
 a20:=Tryd.isAgg20
 z20:=Tryd.sizeOf20
 v20:=Tryd.zeroValue20
 t37:=underlying36
 a37:=Tryd.isAgg36
 z37:=Tryd.sizeOf36
 v37:=Tryd.zeroValue36
 t46:=underlying80
 a46:=Tryd.isAgg80
 z46:=Tryd.sizeOf80
 v46:=Tryd.zeroValue80
 t51:=underlying108
 a51:=Tryd.isAgg108
 z51:=Tryd.sizeOf108
 v51:=Tryd.zeroValue108
 t53:=underlying28
 a53:=Tryd.isAgg28
 z53:=Tryd.sizeOf28
 v53:=Tryd.zeroValue28
 t171:=underlying99
 a171:=Tryd.isAgg99
 z171:=Tryd.sizeOf99
 v171:=Tryd.zeroValue99
 t173:=underlying101
 a173:=Tryd.isAgg101
 z173:=Tryd.sizeOf101
 v173:=Tryd.zeroValue101
 t212:=underlying107
 a212:=Tryd.isAgg107
 z212:=Tryd.sizeOf107
 v212:=Tryd.zeroValue107
 t213:=underlying109
 a213:=Tryd.isAgg109
 z213:=Tryd.sizeOf109
 t232:=underlying113
 a232:=Tryd.isAgg113
 z232:=Tryd.sizeOf113
 v232:=Tryd.zeroValue113
 t233:=underlying93
 a233:=Tryd.isAgg93
 z233:=Tryd.sizeOf93
 v233:=Tryd.zeroValue93
 g17:=by kernel_rfl
 g18:=by kernel_rfl
 g19:=by kernel_rfl
 i0:=by kernel_rfl
 i2:=by kernel_rfl
 i3:=by kernel_rfl
 i4:=by kernel_rfl
 i5:=by kernel_rfl
 i9:=by kernel_rfl
 i20:=by kernel_rfl
 i37:=by kernel_rfl
 i46:=by kernel_rfl
 i51:=by kernel_rfl
 i53:=by kernel_rfl
 i171:=by kernel_rfl
 i173:=by kernel_rfl
 i212:=by kernel_rfl
 i232:=by kernel_rfl
 i233:=by kernel_rfl
 m17:=by kernel_rfl
 m18:=by kernel_rfl
 m19:=by kernel_rfl }
open Go.RowKit Go.Sort Go.Lib in
theorem Tryd.strconv_Itoa (n : Int) (h0 : -9223372036854775808 ≤ n) (h1 : n ≤ 9223372036854775807) (w : World) (htab : Lib.TabIs Tryd.prog w "internal/strconv.uint64pow10" .u64 Lib.pow10Tab) :
  Calls prog 64 #[.int .i64 n] w λe w'=>e=.returned (.string ⟨(Lib.itoa n).toArray⟩)/\∃k os,w'=grow (w.drewN k) os:=Any.strconv_Itoa Tryd.laysM171 n h0 h1 w htab
def Tryd.laysM173_ren:Go.Shelf.Ren:=⟨fun|173=>37|246=>63|283=>76|284=>77|285=>78|286=>79|129=>45|317=>84|318=>85|319=>86|320=>87|337=>89|338=>44|n=>n,fun|2=>2|3=>3|9=>9|4=>4|171=>99|0=>0|53=>28|37=>36|5=>5|173=>101|212=>107|51=>108|20=>20|213=>109|46=>80|232=>113|233=>93|n=>n,fun|17=>2|18=>4|19=>1|n=>n⟩
theorem Tryd.laysM173:Go.Proofs.LaysM.n173 prog Tryd.laysM173_ren:={
 mixed:=by kernel_rfl
 f129:=func45.trans (congrArg some (by kernel_rfl))
 f173:=func37.trans (congrArg some (by kernel_rfl))
 f246:=func63.trans (congrArg some (by kernel_rfl))
 f283:=func76.trans (congrArg some (by kernel_rfl))
 f284:=func77.trans (congrArg some (by kernel_rfl))
 f285:=func78.trans (congrArg some (by kernel_rfl))
 f286:=func79.trans (congrArg some (by kernel_rfl))
 f317:=func84.trans (congrArg some (by kernel_rfl))
 f318:=func85.trans (congrArg some (by kernel_rfl))
 f319:=func86.trans (congrArg some (by kernel_rfl))
 f320:=func87.trans (congrArg some (by kernel_rfl))
 f337:=func89.trans (congrArg some (by kernel_rfl))
 f338:=func44.trans (congrArg some (by kernel_rfl))
 t0:=underlying0
 a0:=Tryd.isAgg0
 z0:=Tryd.sizeOf0
 v0:=Tryd.zeroValue0
 t2:=underlying2
 a2:=Tryd.isAgg2
 z2:=Tryd.sizeOf2
 v2:=Tryd.zeroValue2
 t3:=underlying3
 a3:=Tryd.isAgg3
 z3:=Tryd.sizeOf3
 v3:=Tryd.zeroValue3
 t4:=underlying4
 a4:=Tryd.isAgg4
 z4:=Tryd.sizeOf4
 v4:=Tryd.zeroValue4
 t5:=underlying5
 a5:=Tryd.isAgg5
 z5:=Tryd.sizeOf5
 v5:=Tryd.zeroValue5
 t9:=underlying9
 a9:=Tryd.isAgg9
 z9:=Tryd.sizeOf9
 v9:=Tryd.zeroValue9
 t20:=underlying20
 a20:=Tryd.isAgg20
 z20:=Tryd.sizeOf20
 v20:=Tryd.zeroValue20
 t37:=underlying36
 a37:=Tryd.isAgg36
 z37:=Tryd.sizeOf36
 v37:=Tryd.zeroValue36
 t46:=underlying80
 a46:=Tryd.isAgg80
 z46:=Tryd.sizeOf80
 v46:=Tryd.zeroValue80
 t51:=underlying108
 a51:=Tryd.isAgg108
 z51:=Tryd.sizeOf108
 v51:=Tryd.zeroValue108
 t53:=underlying28
 a53:=Tryd.isAgg28
 z53:=Tryd.sizeOf28
 v53:=Tryd.zeroValue28
 t171:=underlying99
 a171:=Tryd.isAgg99
 z171:=Tryd.sizeOf99
 v171:=Tryd.zeroValue99
 t173:=underlying101
 a173:=Tryd.isAgg101
 z173:=Tryd.sizeOf101
 v173:=Tryd.zeroValue101
 t212:=underlying107
 a212:=Tryd.isAgg107
 z212:=Tryd.sizeOf107
 v212:=Tryd.zeroValue107
 t213:=underlying109
 a213:=Tryd.isAgg109
 z213:=Tryd.sizeOf109
 t232:=underlying113
 a232:=Tryd.isAgg113
 z232:=Tryd.sizeOf113
 v232:=Tryd.zeroValue113
 t233:=underlying93
 a233:=Tryd.isAgg93
 z233:=Tryd.sizeOf93
 v233:=Tryd.zeroValue93
 g17:=by kernel_rfl
 g18:=by kernel_rfl
 g19:=by kernel_rfl
 i0:=by kernel_rfl
 i2:=by kernel_rfl
 i3:=by kernel_rfl
 i4:=by kernel_rfl
 i5:=by kernel_rfl
 i9:=by kernel_rfl
 i20:=by kernel_rfl
 i37:=by kernel_rfl
 i46:=by kernel_rfl
 i51:=by kernel_rfl
 i53:=by kernel_rfl
 i171:=by kernel_rfl
 i173:=by kernel_rfl
 i212:=by kernel_rfl
 i232:=by kernel_rfl
 i233:=by kernel_rfl
 m17:=by kernel_rfl
 m18:=by kernel_rfl
 m19:=by kernel_rfl }
open Go.RowKit Go.Sort Go.Lib in
theorem Tryd.strconv_FormatInt_10 (n : Int) (h0 : -9223372036854775808 ≤ n) (h1 : n ≤ 9223372036854775807) (w : World) (htab : Lib.TabIs Tryd.prog w "internal/strconv.uint64pow10" .u64 Lib.pow10Tab) :
  Calls prog 37 #[.int .i64 n,.int .i64 10] w λe w'=>e=.returned (.string ⟨(Lib.itoa n).toArray⟩)/\∃k os,w'=grow (w.drewN k) os:=Any.strconv_FormatInt_10 Tryd.laysM173 n h0 h1 w htab
def Tryd.laysM316_ren:Go.Shelf.Ren:=⟨fun|316=>72|n=>n,fun|9=>9|3=>3|4=>4|37=>36|0=>0|127=>104|5=>5|n=>n,fun|n=>n⟩
theorem Tryd.laysM316:Go.Proofs.LaysM.n316 prog Tryd.laysM316_ren:={
 mixed:=by kernel_rfl
 f316:=func72.trans (congrArg some (by kernel_rfl))
 t0:=underlying0
 a0:=Tryd.isAgg0
 z0:=Tryd.sizeOf0
 v0:=Tryd.zeroValue0
 t3:=underlying3
 a3:=Tryd.isAgg3
 z3:=Tryd.sizeOf3
 v3:=Tryd.zeroValue3
 t4:=underlying4
 a4:=Tryd.isAgg4
 z4:=Tryd.sizeOf4
 v4:=Tryd.zeroValue4
 t9:=underlying9
 a9:=Tryd.isAgg9
 z9:=Tryd.sizeOf9
 v9:=Tryd.zeroValue9
 t37:=underlying36
 a37:=Tryd.isAgg36
 z37:=Tryd.sizeOf36
 v37:=Tryd.zeroValue36
 t127:=underlying104
 a127:=Tryd.isAgg104
 z127:=Tryd.sizeOf104
 v127:=Tryd.zeroValue104
 t5:=underlying5
 a5:=Tryd.isAgg5
 z5:=Tryd.sizeOf5
 v5:=Tryd.zeroValue5
 i0:=by kernel_rfl
 i3:=by kernel_rfl
 i4:=by kernel_rfl
 i5:=by kernel_rfl
 i9:=by kernel_rfl
 i37:=by kernel_rfl
 i127:=by kernel_rfl }
open Go.RowKit in
theorem Tryd.stringslite_Clone(s:ByteArray)(w:World)(hlim:s.size<=281474976710656) :
  Calls prog 72 #[.string s] w λe w'=>e=.returned (.string s)/\Below w.heap.size w w':=Any.stringslite_Clone Tryd.laysM316 s w hlim
def Tryd.lays99_ren:Go.Shelf.Ren:=⟨fun|99=>58|206=>73|n=>n,fun|9=>9|4=>4|3=>3|n=>n,fun|n=>n⟩
theorem Tryd.lays99:Go.Proofs.Lays.n99 prog Tryd.lays99_ren:={
 mixed:=by kernel_rfl
 f99:=func58.trans (congrArg some (by kernel_rfl))
 f206:=func73.trans (congrArg some (by kernel_rfl))
 t3:=underlying3
 a3:=Tryd.isAgg3
 z3:=Tryd.sizeOf3
 v3:=Tryd.zeroValue3
 t4:=underlying4
 a4:=Tryd.isAgg4
 z4:=Tryd.sizeOf4
 v4:=Tryd.zeroValue4
 t9:=underlying9
 a9:=Tryd.isAgg9
 z9:=Tryd.sizeOf9
 v9:=Tryd.zeroValue9 }
open Go.RowKit Go.Lib in
theorem Tryd.strings_HasPrefix(s p:ByteArray)(w:World) :
  Calls prog 58 #[.string s,.string p] w λe w'=>e=.returned (.bool (Lib.hasPrefix s.data.toList p.data.toList))/\w'=w:=Any.strings_HasPrefix Tryd.lays99 s p w
def Tryd.lays29_ren:Go.Shelf.Ren:=⟨fun|29=>44|n=>n,fun|22=>28|3=>3|4=>4|25=>80|54=>93|0=>0|5=>5|n=>n,fun|1=>1|n=>n⟩
theorem Tryd.lays29:Go.Proofs.Lays7.n29 prog Tryd.lays29_ren:={
 mixed:=by kernel_rfl
 f29:=func44.trans (congrArg some (by kernel_rfl))
 t0:=underlying0
 a0:=Tryd.isAgg0
 z0:=Tryd.sizeOf0
 v0:=Tryd.zeroValue0
 i0:=by kernel_rfl
 t3:=underlying3
 a3:=Tryd.isAgg3
 z3:=Tryd.sizeOf3
 v3:=Tryd.zeroValue3
 i3:=by kernel_rfl
 t4:=underlying4
 a4:=Tryd.isAgg4
 z4:=Tryd.sizeOf4
 v4:=Tryd.zeroValue4
 i4:=by kernel_rfl
 t5:=underlying5
 a5:=Tryd.isAgg5
 z5:=Tryd.sizeOf5
 v5:=Tryd.zeroValue5
 i5:=by kernel_rfl
 t22:=underlying28
 a22:=Tryd.isAgg28
 z22:=Tryd.sizeOf28
 v22:=Tryd.zeroValue28
 i22:=by kernel_rfl
 t25:=underlying80
 a25:=Tryd.isAgg80
 z25:=Tryd.sizeOf80
 v25:=Tryd.zeroValue80
 i25:=by kernel_rfl
 t54:=underlying93
 a54:=Tryd.isAgg93
 z54:=Tryd.sizeOf93
 g1:=by kernel_rfl }
open Go.RowKit in
theorem Tryd.bits_TrailingZeros64(x:Nat)(hx:x<18446744073709551616)(w:World)(hT:x≠0->TabAt 1 Lib.deBruijn64tab w) :
  Calls prog 44 #[.int .u64 x] w λe w'=>e=.returned (.int .i64 (Lib.ctz 64 x))/\w'=w:=Any7.bits_TrailingZeros64 Tryd.lays29 x hx w hT
end Go.Proofs

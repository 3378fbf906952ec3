import Derived.Shelf.Strings.Builder1
import Derived.Shelf.Small.Bits
import Derived.Shelf.Small.Strs
import Derived.Shelf.Small.Wraps
import Derived.Shelf.Strings.BuilderF
import Derived.Shelf.Strings.BuilderK
import Derived.Shelf.Strconv.Itoa0
import Derived.Shelf.Strconv.Itoa1
import Derived.Shelf.LaysM
import Derived.Shelf.Strconv.Itoa2
import Derived.Shelf.Strconv.Itoa3
import Derived.Shelf.Strconv.Itoa4
import Derived.Shelf.Strconv.Clone
import Derived.Shelf.Strings.Search1
import Derived.Shelf.Sort.Plain
import Derived.Shelf.Strings.Prefix
import Derived.Shelf.Bits.Mul64
import Derived.Shelf.Strings.BuilderCap
import Derived.Shelf.Slices.Turned
import Derived.Ground.Names2Prog
import Derived.Shelf.Slices.SearchI
import Derived.Shelf.Slices.In.SortNone
import Derived.Test.YtfmioihcaohgiaaGreatDoorProg
namespace Go.Proofs
open Go.Shelf
def Tryz.lays189_ren:Go.Shelf.Ren:=⟨fun|189=>21|125=>32|257=>31|128=>58|129=>59|294=>49|295=>50|296=>51|297=>52|298=>53|299=>54|216=>55|300=>56|301=>57|328=>89|329=>90|330=>91|331=>92|332=>93|215=>94|343=>121|n=>n,fun|28=>36|3=>3|46=>69|0=>0|51=>107|53=>38|4=>4|183=>101|182=>100|131=>87|5=>5|9=>9|218=>146|222=>150|228=>161|229=>162|n=>n,fun|n=>n⟩
theorem Tryz.lays189:Go.Proofs.Lays.n189 Tryz.prog Tryz.lays189_ren:={
 mixed:=by kernel_rfl
 f125:=Tryz.func32.trans (congrArg some (by kernel_rfl))
 f128:=Tryz.func58.trans (congrArg some (by kernel_rfl))
 f129:=Tryz.func59.trans (congrArg some (by kernel_rfl))
 f189:=Tryz.func21.trans (congrArg some (by kernel_rfl))
 f215:=Tryz.func94.trans (congrArg some (by kernel_rfl))
 f216:=Tryz.func55.trans (congrArg some (by kernel_rfl))
 f257:=Tryz.func31.trans (congrArg some (by kernel_rfl))
 f294:=Tryz.func49.trans (congrArg some (by kernel_rfl))
 f295:=Tryz.func50.trans (congrArg some (by kernel_rfl))
 f296:=Tryz.func51.trans (congrArg some (by kernel_rfl))
 f297:=Tryz.func52.trans (congrArg some (by kernel_rfl))
 f298:=Tryz.func53.trans (congrArg some (by kernel_rfl))
 f299:=Tryz.func54.trans (congrArg some (by kernel_rfl))
 f300:=Tryz.func56.trans (congrArg some (by kernel_rfl))
 f301:=Tryz.func57.trans (congrArg some (by kernel_rfl))
 f328:=Tryz.func89.trans (congrArg some (by kernel_rfl))
 f329:=Tryz.func90.trans (congrArg some (by kernel_rfl))
 f330:=Tryz.func91.trans (congrArg some (by kernel_rfl))
 f331:=Tryz.func92.trans (congrArg some (by kernel_rfl))
 f332:=Tryz.func93.trans (congrArg some (by kernel_rfl))
 f343:=Tryz.func121.trans (congrArg some (by kernel_rfl))
 t0:=Tryz.underlying0
 a0:=Tryz.isAgg0
 z0:=Tryz.sizeOf0
 v0:=Tryz.zeroValue0
 t3:=Tryz.underlying3
 a3:=Tryz.isAgg3
 z3:=Tryz.sizeOf3
 v3:=Tryz.zeroValue3
 t4:=Tryz.underlying4
 a4:=Tryz.isAgg4
 z4:=Tryz.sizeOf4
 v4:=Tryz.zeroValue4
 t5:=Tryz.underlying5
 a5:=Tryz.isAgg5
 z5:=Tryz.sizeOf5
 v5:=Tryz.zeroValue5
 t9:=Tryz.underlying9
 a9:=Tryz.isAgg9
 z9:=Tryz.sizeOf9
 v9:=Tryz.zeroValue9
 t28:=Tryz.underlying36
 a28:=Tryz.isAgg36
 z28:=Tryz.sizeOf36
 v28:=Tryz.zeroValue36
 t46:=Tryz.underlying69
 a46:=Tryz.isAgg69
 z46:=Tryz.sizeOf69
 v46:=Tryz.zeroValue69
 t51:=Tryz.underlying107
 a51:=Tryz.isAgg107
 z51:=Tryz.sizeOf107
 v51:=Tryz.zeroValue107
 t53:=Tryz.underlying38
 a53:=Tryz.isAgg38
 z53:=Tryz.sizeOf38
 v53:=Tryz.zeroValue38
 t131:=Tryz.underlying87
 a131:=Tryz.isAgg87
 z131:=Tryz.sizeOf87
 v131:=Tryz.zeroValue87
 t182:=Tryz.underlying100
 a182:=Tryz.isAgg100
 z182:=Tryz.sizeOf100
 v182:=Tryz.zeroValue100
 t183:=Tryz.underlying101
 a183:=Tryz.isAgg101
 z183:=Tryz.sizeOf101
 v183:=Tryz.zeroValue101
 t218:=Tryz.underlying146
 a218:=Tryz.isAgg146
 z218:=Tryz.sizeOf146
 v218:=Tryz.zeroValue146
 t222:=Tryz.underlying150
 a222:=Tryz.isAgg150
 z222:=Tryz.sizeOf150
 v222:=Tryz.zeroValue150
 t228:=Tryz.underlying161
 a228:=Tryz.isAgg161
 z228:=Tryz.sizeOf161
 v228:=Tryz.zeroValue161
 t229:=Tryz.underlying162
 a229:=Tryz.isAgg162
 z229:=Tryz.sizeOf162
 v229:=Tryz.zeroValue162 }
open Go.Sort Go.RowKit in
theorem Tryz.slices_Sort_int(blk off cap:Nat)(zs:List Int)(w:World)(hH:Holds (Value.int .i64) w blk off zs.toArray)(hblk:blk<w.heap.size)(hsz:zs.length<4611686018427387904) :
  Calls Tryz.prog 21 #[.slice (some ⟨blk,off,none⟩) zs.length cap] w λe w'=>
   e=.returned (.tuple #[])/\∃n os,w'=grow (putRow (Value.int .i64) (Sort.ahead w n) blk off (zs.mergeSort λx y=>decide (x<=y)).toArray) os:=Any.slices_Sort_int Tryz.lays189 blk off cap zs w hH hblk hsz
open Go.RowKit Go.Sort in
theorem Tryz.slices_Sort_int_none(p:Option Addr)(cap:Nat)(w:World) :
  Calls Tryz.prog 21 #[.slice p 0 cap] w λe w'=>e=.returned (.tuple #[])/\w'=w:=Any.slices_Sort_int_none Tryz.lays189 p cap w
end Go.Proofs

import Derived.Test.YteffljnjmcjdfaaGreatDoorJC
import Derived.Test.YteffljnjmcjdfaaGreatDoorJP
import Derived.Test.YteffljnjmcjdfaaGreatDoorJR
import Derived.Sort.Grow
import Derived.Deep.QuietTactic
import Derived.BigQuiet
set_option maxRecDepth 1000000
set_option maxHeartbeats 8000000
namespace Go.Proofs.YteffljnjmcjdfaaGreatDoor.W
set_option linter.unusedVariables false
section
variable {f a:Nat} {l:List UInt8} {p:Pc}
end
open Go.ChangeShapes Go.WideShapes Go.RowKit Go.Shelf
structure BW (w:World) where
 w':World
 h:Below w.heap.size w w'
theorem wp_region_quiet_below{id:Nat}{Q:Exit->Act->World->Prop}{a:Act}{w:World}{l:List Oper}(hm:Tryz.prog.follows .mixedOrders=true)(hB:Region.lexB .any l.toArray=true)
  (h:wpQuiet Tryz.prog l.toArray (λw'=>∃p:BW w,w'=p.w') (λa'=>∀w',(∃p:BW w,w'=p.w')->Q .normal a' w') l a):(Code.region id l.toArray true).wp Tryz.prog Q a w:=
 wp_region_quiet (C:=λw'=>∃p:BW w,w'=p.w') hm hB ⟨⟨w.drew,(Below.refl _ w).drew⟩,rfl⟩ (by simpa using h)
theorem BW.calls{P:Program}{f:FuncId}{args:Array Value}{w:World}{p:BW w}{v:Value}(h:Calls P f args p.w' λe w'=>e=.returned v/\Below p.w'.heap.size p.w' w'):Calls P f args p.w' λe w''=>e=.returned v/\∃p':BW w,w''=p'.w':=
 h.mono λ_ w'' ⟨he,hB⟩=>⟨he,⟨w'',p.h.trans (hB.mono p.h.size)⟩,rfl⟩
theorem BW.cell{w:World}{a:Addr}{v:Value}(h:w.cell? a=some v)(p:BW w):p.w'.cell? a=some v:=It.below_cell p.h h
structure Sx (w W:World):Prop where
 bel:Below w.heap.size w W
 tabs:Tabs W
 marks:MarksIn W
theorem Sx.go{w W W':World}(h:Sx w W)(hb:Below W.heap.size W W'):Sx w W':=⟨h.bel.trans (hb.mono h.bel.size),h.tabs.below hb,h.marks.below hb⟩
theorem Sx.alloc{w W:World}(h:Sx w W)(o:Obj):Sx w (W.alloc o):=h.go ((Below.refl _ W).alloc (Nat.le_refl _) o)
theorem Sx.refl{w:World}(ht:Tabs w)(hm:MarksIn w):Sx w w:=⟨Below.refl _ w,ht,hm⟩
end Go.Proofs.YteffljnjmcjdfaaGreatDoor.W

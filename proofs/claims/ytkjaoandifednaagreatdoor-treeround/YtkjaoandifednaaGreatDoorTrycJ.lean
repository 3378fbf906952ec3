import Derived.Test.YtkjaoandifednaaGreatDoorKA
namespace Go.Proofs.YtkjaoandifednaaGreatDoor.W.Tr
open Go.ChangeShapes Go.WideShapes Go.RowKit Go.Shelf
set_option linter.unusedVariables false
set_option linter.unusedSimpArgs false
structure Rul where
 sort:Int
 text:Int
 least:Int
 most:Int
def ruleP (k:Int):Rul:=
 if k=1 then ⟨1,0,0,9223372036854775807⟩ else
 if k=2 then ⟨2,1,0,0⟩ else
 if k=3 then ⟨2,1,1,9223372036854775807⟩ else
 if k=4 then ⟨3,1,0,0⟩ else
 if k=5 then ⟨4,0,0,9223372036854775807⟩ else
 if k=6 then ⟨5,1,1,1⟩ else
 if k=7 then ⟨5,1,1,1⟩ else
 if k=8 then ⟨5,0,3,3⟩ else
 if k=9 then ⟨5,0,2,3⟩ else
 if k=10 then ⟨5,2,2,2⟩ else
 if k=11 then ⟨5,1,3,4⟩ else
 if k=12 then ⟨6,1,0,0⟩ else
 if k=13 then ⟨5,2,0,0⟩ else
 if k=14 then ⟨5,2,0,0⟩ else
 if k=15 then ⟨5,0,0,1⟩ else
 if k=16 then ⟨5,0,1,1⟩ else
 if k=17 then ⟨5,0,1,1⟩ else
 if k=18 then ⟨7,0,2,2⟩ else
 if k=19 then ⟨7,0,2,2⟩ else
 if k=20 then ⟨7,0,1,1⟩ else
 if k=21 then ⟨7,3,2,2⟩ else
 if k=22 then ⟨7,4,1,1⟩ else
 if k=23 then ⟨7,1,0,9223372036854775807⟩ else
 if k=24 then ⟨7,0,2,2⟩ else
 if k=25 then ⟨7,1,0,0⟩ else
 if k=26 then ⟨7,0,0,0⟩ else
 if k=27 then ⟨7,0,0,0⟩ else
 if k=28 then ⟨7,5,0,0⟩ else
 if k=29 then ⟨7,0,0,0⟩ else
 if k=30 then ⟨7,0,0,0⟩ else
 if k=31 then ⟨7,0,0,0⟩ else
 ⟨0,0,0,0⟩
def rulV (r:Rul):Value:=.agg #[.int .i64 r.sort,.int .i64 r.text,.int .i64 r.least,.int .i64 r.most]
theorem ruT:(Tryz.prog.underlying 111).map (fun d=>match d with | .struct _ | .array _ _=>true | _=>false)=some true:=by kernel_rfl
theorem ruSz:(Tryz.prog.info? 111).map (·.size)=some 4:=by kernel_rfl
theorem ru_ret {fn:Func} {p:Tmp} (h:fn.results = #[.cell p 111]) (tmps:Array Value) (w:World) (gb:Nat) (v0 v1 v2 v3:Value) (fr:Nat × Nat) (hp:tmps.getD p undef=.pointer (some ⟨gb,0,none⟩)) (hg:w.heap[gb]? = some (.cells #[v0,v1,v2,v3] 111 fr)):(results fn tmps).run Tryz.prog w=.ok (.agg #[v0,v1,v2,v3]) w:=by
 have ht:=ruT
 cases hu:Tryz.prog.underlying 111 with
 | none=>rw [hu] at ht;cases ht
 | some d=>
  rw [hu] at ht
  simp only [Option.map_some,Option.some.injEq] at ht
  refine results_cell_row h tmps w gb _ _ fr d hp hg hu ?_ (by rw [ruSz];rfl)
  cases d <;> first | rfl | exact ht
set_option maxRecDepth 100000 in
set_option maxHeartbeats 4000000 in
theorem ruleOf_c (k:Int) (w:World):Calls Tryz.prog 54 #[.int .i64 k] w fun e w'=>e=.returned (rulV (ruleP k))∧Below w.heap.size w w':=by
 by_cases h:1≤k∧k≤31
 ·have:k=1∨k=2∨k=3∨k=4∨k=5∨k=6∨k=7∨k=8∨k=9∨k=10∨k=11∨k=12∨k=13∨k=14∨k=15∨k=16∨k=17∨k=18∨k=19∨k=20∨k=21∨k=22∨k=23∨k=24∨k=25∨k=26∨k=27∨k=28∨k=29∨k=30∨k=31:=by omega
  rcases this with rfl | rfl | rfl | rfl | rfl | rfl | rfl | rfl | rfl | rfl | rfl | rfl | rfl | rfl | rfl | rfl | rfl | rfl | rfl | rfl | rfl | rfl | rfl | rfl | rfl | rfl | rfl | rfl | rfl | rfl | rfl
  all_goals
   go_enter Tryz.func54,Tryz.ntmps54
   go_wp2
   refine bodyPost_ret (ru_ret rfl _ _ w.heap.size _ _ _ _ (0,0) rfl (World.alloc_heap_new w _)) rfl ?_
   exact ⟨rfl,(Below.refl _ w).alloc (Nat.le_refl _) _⟩
 ·have hn:¬ k=1∧¬ k=2∧¬ k=3∧¬ k=4∧¬ k=5∧¬ k=6∧¬ k=7∧¬ k=8∧¬ k=9∧¬ k=10∧¬ k=11∧¬ k=12∧¬ k=13∧¬ k=14∧¬ k=15∧¬ k=16∧¬ k=17∧¬ k=18∧¬ k=19∧¬ k=20∧¬ k=21∧¬ k=22∧¬ k=23∧¬ k=24∧¬ k=25∧¬ k=26∧¬ k=27∧¬ k=28∧¬ k=29∧¬ k=30∧¬ k=31:=by omega
  obtain ⟨n1,n2,n3,n4,n5,n6,n7,n8,n9,n10,n11,n12,n13,n14,n15,n16,n17,n18,n19,n20,n21,n22,n23,n24,n25,n26,n27,n28,n29,n30,n31⟩:=hn
  have hr:ruleP k=⟨0,0,0,0⟩:=by simp only [ruleP,if_neg n1,if_neg n2,if_neg n3,if_neg n4,if_neg n5,if_neg n6,if_neg n7,if_neg n8,if_neg n9,if_neg n10,if_neg n11,if_neg n12,if_neg n13,if_neg n14,if_neg n15,if_neg n16,if_neg n17,if_neg n18,if_neg n19,if_neg n20,if_neg n21,if_neg n22,if_neg n23,if_neg n24,if_neg n25,if_neg n26,if_neg n27,if_neg n28,if_neg n29,if_neg n30,if_neg n31]
  rw [hr]
  clear hr h
  go_enter Tryz.func54,Tryz.ntmps54
  go_wp2
  refine bodyPost_ret (ru_ret rfl _ _ w.heap.size _ _ _ _ (0,0) rfl (World.alloc_heap_new w _)) rfl ?_
  exact ⟨rfl,(Below.refl _ w).alloc (Nat.le_refl _) _⟩
end Go.Proofs.YtkjaoandifednaaGreatDoor.W.Tr

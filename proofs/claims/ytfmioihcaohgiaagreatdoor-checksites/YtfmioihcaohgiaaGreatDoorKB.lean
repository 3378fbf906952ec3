import Derived.Test.YtfmioihcaohgiaaGreatDoorKA
import Derived.Sort.Grow
import Derived.Deep.QuietTactic
import Derived.BigQuiet
open Nat renaming le_refl → z1z
open Go.World renaming alloc_heap_new → z2z
open Go.RowKit.Below renaming refl → z0z
open Go.Proofs.Tryz
set_option maxRecDepth 1000000
set_option maxHeartbeats 8000000
namespace Go.Proofs.YtfmioihcaohgiaaGreatDoor.W.Tr
open Go.ChangeShapes Go.WideShapes Go.RowKit Go.Shelf
set_option linter.unusedVariables false
set_option linter.unusedSimpArgs false
structure Rul where
 sort:Int
 text:Int
 least:Int
 most:Int
def ruleP(k:Int):Rul:=
 if k=1 then ⟨1,0,0,9223372036854775807⟩ else
 if k=2 then ⟨2,1,0,0⟩ else
 if k=3 then ⟨2,1,1,9223372036854775807⟩ else
 if k=4 then ⟨3,1,0,0⟩ else
 if k=5 then ⟨4,0,0,9223372036854775807⟩ else
 if k=6 then ⟨5,1,1,1⟩ else
 if k=7 then ⟨5,1,1,1⟩ else
 if k=8 then ⟨5,0,3,3⟩ else
 if k=9 then ⟨5,0,2,3⟩ else
 if k=10 then ⟨5,2,2,2⟩ else
 if k=11 then ⟨5,1,3,4⟩ else
 if k=12 then ⟨6,1,0,0⟩ else
 if k=13 then ⟨5,2,0,0⟩ else
 if k=14 then ⟨5,2,0,0⟩ else
 if k=15 then ⟨5,0,0,1⟩ else
 if k=16 then ⟨5,0,1,1⟩ else
 if k=17 then ⟨5,0,1,1⟩ else
 if k=18 then ⟨7,0,2,2⟩ else
 if k=19 then ⟨7,0,2,2⟩ else
 if k=20 then ⟨7,0,1,1⟩ else
 if k=21 then ⟨7,3,2,2⟩ else
 if k=22 then ⟨7,4,1,1⟩ else
 if k=23 then ⟨7,1,0,9223372036854775807⟩ else
 if k=24 then ⟨7,0,2,2⟩ else
 if k=25 then ⟨7,1,0,0⟩ else
 if k=26 then ⟨7,0,0,0⟩ else
 if k=27 then ⟨7,0,0,0⟩ else
 if k=28 then ⟨7,5,0,0⟩ else
 if k=29 then ⟨7,0,0,0⟩ else
 if k=30 then ⟨7,0,0,0⟩ else
 if k=31 then ⟨7,0,0,0⟩ else
 ⟨0,0,0,0⟩
def rulV(r:Rul):Value:=.agg #[.int .i64 r.sort,.int .i64 r.text,.int .i64 r.least,.int .i64 r.most]
theorem ruT:(prog.underlying 154).map (fun d=>match d with | .struct _ | .array _ _=>true|_=>false)=some true:=by kernel_rfl
theorem ruSz:(prog.info? 154).map (·.size)=some 4:=by kernel_rfl
theorem ru_ret{fn:Func}{p:Tmp}(h:fn.results = #[.cell p 154])(tmps:Array Value)(w:World)(gb:Nat)(v0 v1 v2 v3:Value)(fr:Nat × Nat)(hp:tmps.getD p undef=.pointer (some ⟨gb,0,none⟩))(hg:w.heap[gb]? = some (.cells #[v0,v1,v2,v3] 154 fr)):(results fn tmps).run prog w=.ok (.agg #[v0,v1,v2,v3]) w:=by
 have ht:=ruT
 cases hu:prog.underlying 154 with
 | none=>rw[hu] at ht;cases ht
 | some d=>
  rw[hu] at ht
  simp only[Option.map_some,Option.some.injEq] at ht
  refine results_cell_row h tmps w gb _ _ fr d hp hg hu ?_ (by rw[ruSz];rfl)
  cases d <;> first|rfl|exact ht
theorem ruleOf_c(k:Int)(w:World):Calls prog 104 #[.int .i64 k] w fun e w'=>e=.returned (rulV (ruleP k))∧Below w.heap.size w w':=by
 by_cases h:1≤k∧k≤31
 ·have:k=1∨k=2∨k=3∨k=4∨k=5∨k=6∨k=7∨k=8∨k=9∨k=10∨k=11∨k=12∨k=13∨k=14∨k=15∨k=16∨k=17∨k=18∨k=19∨k=20∨k=21∨k=22∨k=23∨k=24∨k=25∨k=26∨k=27∨k=28∨k=29∨k=30∨k=31:=by omega
  rcases this with rfl|rfl|rfl|rfl|rfl|rfl|rfl|rfl|rfl|rfl|rfl|rfl|rfl|rfl|rfl|rfl|rfl|rfl|rfl|rfl|rfl|rfl|rfl|rfl|rfl|rfl|rfl|rfl|rfl|rfl|rfl
  all_goals
   go_enter func104,ntmps104
   go_wp2
   refine bodyPost_ret (ru_ret rfl _ _ w.heap.size _ _ _ _ (0,0) rfl (z2z w _)) rfl ?_
   exact⟨rfl,(z0z _ w).alloc (z1z _) _⟩
 ·have hn:¬k=1∧¬k=2∧¬k=3∧¬k=4∧¬k=5∧¬k=6∧¬k=7∧¬k=8∧¬k=9∧¬k=10∧¬k=11∧¬k=12∧¬k=13∧¬k=14∧¬k=15∧¬k=16∧¬k=17∧¬k=18∧¬k=19∧¬k=20∧¬k=21∧¬k=22∧¬k=23∧¬k=24∧¬k=25∧¬k=26∧¬k=27∧¬k=28∧¬k=29∧¬k=30∧¬k=31:=by omega
  obtain⟨n1,n2,n3,n4,n5,n6,n7,n8,n9,n10,n11,n12,n13,n14,n15,n16,n17,n18,n19,n20,n21,n22,n23,n24,n25,n26,n27,n28,n29,n30,n31⟩:=hn
  have hr:ruleP k=⟨0,0,0,0⟩:=by simp only[ruleP,if_neg n1,if_neg n2,if_neg n3,if_neg n4,if_neg n5,if_neg n6,if_neg n7,if_neg n8,if_neg n9,if_neg n10,if_neg n11,if_neg n12,if_neg n13,if_neg n14,if_neg n15,if_neg n16,if_neg n17,if_neg n18,if_neg n19,if_neg n20,if_neg n21,if_neg n22,if_neg n23,if_neg n24,if_neg n25,if_neg n26,if_neg n27,if_neg n28,if_neg n29,if_neg n30,if_neg n31]
  rw[hr]
  clear hr h
  go_enter func104,ntmps104
  go_wp2
  refine bodyPost_ret (ru_ret rfl _ _ w.heap.size _ _ _ _ (0,0) rfl (z2z w _)) rfl ?_
  exact⟨rfl,(z0z _ w).alloc (z1z _) _⟩
def nodV(k a c:Int)(t:ByteArray)(i b:Int):Value:=.agg #[.int .i64 k,.int .i64 a,.int .i64 c,.string t,.int .i64 i,.int .u64 b]
def numsP(k i b:Int):Bool:=if k=26 then decide (0≤i∧b=0) else if k=27 then decide (i=0∧(b≤9218868437227405312∨b=9221120237041090560)) else decide (i=0∧b=0)
theorem nums_c(k a c:Int)(t:ByteArray)(i b:Int)(w:World):Calls prog 106 #[nodV k a c t i b] w fun e w'=>e=.returned (.bool (numsP k i b))∧Below w.heap.size w w':=by
 obtain⟨q,hq⟩:∃q,numsP k i b=q:=⟨_,rfl⟩
 rw[hq]
 unfold numsP at hq
 unfold nodV
 by_cases h1:k=26
 ·rw[if_pos h1] at hq
  subst h1
  by_cases h2:i≥0
  ·by_cases h3:b=0
   ·have e:q=true:=by rw[← hq];simp;omega
    subst e
    clear hq
    (go_enter func106,ntmps106;go_wp2;go_ret;exact⟨rfl,(z0z _ w).alloc (z1z _) _⟩)
   ·have e:q=false:=by rw[← hq];simp;omega
    have g3:(b==0)=false:=by simpa using h3
    subst e
    clear hq
    (go_enter func106,ntmps106;go_wp2;go_ret;exact⟨rfl,(z0z _ w).alloc (z1z _) _⟩)
  ·have e:q=false:=by rw[← hq];simp;omega
   subst e
   clear hq
   (go_enter func106,ntmps106;go_wp2;go_ret;exact⟨rfl,(z0z _ w).alloc (z1z _) _⟩)
 ·rw[if_neg h1] at hq
  by_cases h4:k=27
  ·rw[if_pos h4] at hq
   subst h4
   by_cases h2:i=0
   ·by_cases h3:b≤9218868437227405312
    ·have e:q=true:=by rw[← hq];simp;omega
     subst e
     clear hq
     (go_enter func106,ntmps106;go_wp2;go_ret;exact⟨rfl,(z0z _ w).alloc (z1z _) _⟩)
    ·by_cases h5:b=9221120237041090560
     ·have e:q=true:=by rw[← hq];simp;omega
      subst e
      clear hq
      (go_enter func106,ntmps106;go_wp2;go_ret;exact⟨rfl,(z0z _ w).alloc (z1z _) _⟩)
     ·have e:q=false:=by rw[← hq];simp;omega
      have g5:(b==9221120237041090560)=false:=by simpa using h5
      subst e
      clear hq
      (go_enter func106,ntmps106;go_wp2;go_ret;exact⟨rfl,(z0z _ w).alloc (z1z _) _⟩)
   ·have e:q=false:=by rw[← hq];simp;omega
    subst e
    clear hq
    (go_enter func106,ntmps106;go_wp2;go_ret;exact⟨rfl,(z0z _ w).alloc (z1z _) _⟩)
  ·rw[if_neg h4] at hq
   by_cases h2:i=0
   ·by_cases h3:b=0
    ·have e:q=true:=by rw[← hq];simp;omega
     subst e
     clear hq
     (go_enter func106,ntmps106;go_wp2;go_ret;exact⟨rfl,(z0z _ w).alloc (z1z _) _⟩)
    ·have e:q=false:=by rw[← hq];simp;omega
     have g3:(b==0)=false:=by simpa using h3
     subst e
     clear hq
     (go_enter func106,ntmps106;go_wp2;go_ret;exact⟨rfl,(z0z _ w).alloc (z1z _) _⟩)
   ·have e:q=false:=by rw[← hq];simp;omega
    subst e
    clear hq
    (go_enter func106,ntmps106;go_wp2;go_ret;exact⟨rfl,(z0z _ w).alloc (z1z _) _⟩)
def sortP(d c k:Int):Int:=if d=1 then 2 else if d=3 then (if k=c-1 then 4 else 3) else if d=5 then 5 else if d=9 then (if k>0 then 4 else 7) else if d=10 then (if k=c-1 then 4 else 7) else if d=11 then (if k=c-1 then 4 else if k=0 then (if c=4 then 6 else 7) else 7) else 7
theorem sort_c(d a c:Int)(t:ByteArray)(i b k:Int)(hc:0≤c∧c≤1000000)(w:World):Calls prog 107 #[nodV d a c t i b,.int .i64 k] w fun e w'=>e=.returned (.int .i64 (sortP d c k))∧Below w.heap.size w w':=by
 obtain⟨q,hq⟩:∃q,q=sortP d c k:=⟨_,rfl⟩
 rw[← hq]
 unfold sortP at hq
 unfold nodV
 have e1:IntKind.i64.wrap (c-1)=c-1:=by rw[IntKind.wrap_i64];omega
 by_cases n1:d=1
 ·rw[if_pos n1] at hq
  subst n1
  subst hq
  (go_enter func107,ntmps107;go_wp2;go_ret;exact⟨rfl,(z0z _ w).alloc (z1z _) _⟩)
 rw[if_neg n1] at hq
 by_cases n3:d=3
 ·rw[if_pos n3] at hq
  subst n3
  by_cases h:k=c-1
  ·rw[if_pos h] at hq
   have g:(k==c-1)=true:=by simpa using h
   subst hq
   (go_enter func107,ntmps107;go_wp2;go_ret;exact⟨rfl,(z0z _ w).alloc (z1z _) _⟩)
  ·rw[if_neg h] at hq
   have g:(k==c-1)=false:=by simpa using h
   subst hq
   (go_enter func107,ntmps107;go_wp2;go_ret;exact⟨rfl,(z0z _ w).alloc (z1z _) _⟩)
 rw[if_neg n3] at hq
 by_cases n5:d=5
 ·rw[if_pos n5] at hq
  subst n5
  subst hq
  (go_enter func107,ntmps107;go_wp2;go_ret;exact⟨rfl,(z0z _ w).alloc (z1z _) _⟩)
 rw[if_neg n5] at hq
 by_cases n9:d=9
 ·rw[if_pos n9] at hq
  subst n9
  by_cases h:k>0
  ·rw[if_pos h] at hq
   skip
   subst hq
   (go_enter func107,ntmps107;go_wp2;go_ret;exact⟨rfl,(z0z _ w).alloc (z1z _) _⟩)
  ·rw[if_neg h] at hq
   skip
   subst hq
   (go_enter func107,ntmps107;go_wp2;go_ret;exact⟨rfl,(z0z _ w).alloc (z1z _) _⟩)
 rw[if_neg n9] at hq
 by_cases n10:d=10
 ·rw[if_pos n10] at hq
  subst n10
  by_cases h:k=c-1
  ·rw[if_pos h] at hq
   have g:(k==c-1)=true:=by simpa using h
   subst hq
   (go_enter func107,ntmps107;go_wp2;go_ret;exact⟨rfl,(z0z _ w).alloc (z1z _) _⟩)
  ·rw[if_neg h] at hq
   have g:(k==c-1)=false:=by simpa using h
   subst hq
   (go_enter func107,ntmps107;go_wp2;go_ret;exact⟨rfl,(z0z _ w).alloc (z1z _) _⟩)
 rw[if_neg n10] at hq
 by_cases n11:d=11
 ·rw[if_pos n11] at hq
  subst n11
  by_cases h:k=c-1
  ·rw[if_pos h] at hq
   have g:(k==c-1)=true:=by simpa using h
   subst hq
   (go_enter func107,ntmps107;go_wp2;go_ret;exact⟨rfl,(z0z _ w).alloc (z1z _) _⟩)
  ·rw[if_neg h] at hq
   have g:(k==c-1)=false:=by simpa using h
   by_cases h0:k=0
   ·rw[if_pos h0] at hq
    have g0:(k==0)=true:=by simpa using h0
    by_cases h4:c=4
    ·rw[if_pos h4] at hq
     have g4:(c==4)=true:=by simpa using h4
     subst hq
     (go_enter func107,ntmps107;go_wp2;go_ret;exact⟨rfl,(z0z _ w).alloc (z1z _) _⟩)
    ·rw[if_neg h4] at hq
     have g4:(c==4)=false:=by simpa using h4
     subst hq
     (go_enter func107,ntmps107;go_wp2;go_ret;exact⟨rfl,(z0z _ w).alloc (z1z _) _⟩)
   ·rw[if_neg h0] at hq
    have g0:(k==0)=false:=by simpa using h0
    subst hq
    (go_enter func107,ntmps107;go_wp2;go_ret;exact⟨rfl,(z0z _ w).alloc (z1z _) _⟩)
 rw[if_neg n11] at hq
 subst hq
 (go_enter func107,ntmps107;go_wp2;go_ret;exact⟨rfl,(z0z _ w).alloc (z1z _) _⟩)
structure BW (w:World) where
 w':World
 h:Below w.heap.size w w'
theorem wp_region_quiet_below{id:Nat}{Q:Exit→Act→World→Prop}{a:Act}{w:World}{l:List Oper}(hm:prog.follows .mixedOrders=true)(hB:Region.lexB .any l.toArray=true)
  (h:wpQuiet prog l.toArray (fun w'=>∃p:BW w,w'=p.w') (fun a'=>∀w',(∃p:BW w,w'=p.w')→Q .normal a' w') l a):(Code.region id l.toArray true).wp prog Q a w:=
 wp_region_quiet (C:=fun w'=>∃p:BW w,w'=p.w') hm hB ⟨⟨w.drew,(z0z _ w).drew⟩,rfl⟩ (by simpa using h)
theorem BW.calls{P:Program}{f:FuncId}{args:Array Value}{w:World}{p:BW w}{v:Value}(h:Calls P f args p.w' fun e w'=>e=.returned v∧Below p.w'.heap.size p.w' w'):Calls P f args p.w' fun e w''=>e=.returned v∧∃p':BW w,w''=p'.w':=
 h.mono fun _ w'' ⟨he,hB⟩=>⟨he,⟨w'',p.h.trans (hB.mono p.h.size)⟩,rfl⟩
theorem BW.cell{w:World}{a:Addr}{v:Value}(h:w.cell? a=some v)(p:BW w):p.w'.cell? a=some v:=It.below_cell p.h h
theorem ru_field(v0 v1 v2 v3:Value)(w:World):(Instr.field 154 (.agg #[v0,v1,v2,v3]) 0).run prog w=.ok v0 w:=by kernel_rfl
def mayP(d c k m:Int):Bool:=decide ((d=9∧k=2∧m=9)∨(ruleP m).sort=sortP d c k)
theorem dec_eq(a b:Int):decide (a=b)=(a==b):=by by_cases h:a=b <;> simp[h]
theorem may_c(d a c:Int)(t:ByteArray)(i b k m:Int)(hc:0≤c∧c≤1000000)(w:World):Calls prog 75 #[nodV d a c t i b,.int .i64 k,.int .i64 m] w fun e w'=>e=.returned (.bool (mayP d c k m))∧Below w.heap.size w w':=by
 have cr:=ruleOf_c m
 have cs:=fun w=>sort_c d a c t i b k hc w
 obtain⟨q,hq⟩:∃q,mayP d c k m=q:=⟨_,rfl⟩
 rw[hq]
 unfold mayP at hq
 unfold nodV at cs ⊢
 generalize ruleP m=r at *
 generalize sortP d c k=z at *
 unfold rulV at cr
 by_cases h:d=9∧k=2∧m=9
 ·obtain⟨rfl,rfl,rfl⟩:=h
  have e:q=true:=by rw[← hq];simp
  subst e
  clear hq
  go_enter func75,ntmps75
  go_wp2
  go_ret
  exact⟨rfl,(z0z _ w).alloc (z1z _) _⟩
 ·have e:q=(r.sort==z):=by rw[← hq,← dec_eq];simp[h]
  subst e
  clear hq
  have bw:Below w.heap.size w (w.alloc (.cells #[.int .i64 d,.int .i64 a,.int .i64 c,.string t,.int .i64 i,.int .u64 b] 40)):=(z0z _ w).alloc (z1z _) _
  have hn:=z2z w (.cells #[.int .i64 d,.int .i64 a,.int .i64 c,.string t,.int .i64 i,.int .u64 b] 40)
  have hcut:(d==9)=false∨(d==9)=true∧(k==2)=false∨(d==9)=true∧(k==2)=true∧(m==9)=false:=by
   by_cases h1:d=9
   ·by_cases h2:k=2
    ·exact .inr (.inr ⟨by simpa using h1,by simpa using h2,by simpa using fun e=>h ⟨h1,h2,e⟩⟩)
    ·exact .inr (.inl ⟨by simpa using h1,by simpa using h2⟩)
   ·exact .inl (by simpa using h1)
  clear h
  rcases hcut with h1|⟨h1,h2⟩|⟨h1,h2,h3⟩
  all_goals
   go_enter func75,ntmps75
   go_upto_region 3 with fail
   generalize World.alloc w _=W at *
   have inst:Nonempty (BW W):=⟨⟨_,z0z _ _⟩⟩
   have c0:=BW.cell (show W.cell? ⟨w.heap.size,0,none⟩=some (.int .i64 d) from row_cellsX hn 0)
   have c1:=BW.cell (show W.cell? ⟨w.heap.size,1,none⟩=some (.int .i64 a) from row_cellsX hn 1)
   have c2:=BW.cell (show W.cell? ⟨w.heap.size,2,none⟩=some (.int .i64 c) from row_cellsX hn 2)
   have c3:=BW.cell (show W.cell? ⟨w.heap.size,3,none⟩=some (.string t) from row_cellsX hn 3)
   have c4:=BW.cell (show W.cell? ⟨w.heap.size,4,none⟩=some (.int .i64 i) from row_cellsX hn 4)
   have c5:=BW.cell (show W.cell? ⟨w.heap.size,5,none⟩=some (.int .u64 b) from row_cellsX hn 5)
   have ca:=fun(p:BW W)=>BW.calls (p:=p) (cr p.w')
   have cb:=fun(p:BW W)=>BW.calls (p:=p) (cs p.w')
   have hfd:=ru_field
   clear cr cs hn
   refine wp_region_quiet_below (by kernel_rfl) (by kernel_rfl) ?_
   repeat (go_big_quiet_step (first|(go_at_call 104;exact ca _)|(go_at_call 107;exact cb _)))
   refine wpQuiet_nil ?_
   intro _ hw'
   obtain⟨pw,hw''⟩:=hw'
   subst hw''
   go_wp2
   go_ret
   exact⟨rfl,bw.trans (pw.h.mono bw.size)⟩
end Go.Proofs.YtfmioihcaohgiaaGreatDoor.W.Tr

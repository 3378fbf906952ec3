import Derived.Test.YtkjaoandifednaaGreatDoorTrycJ
import Derived.Sort.Grow
import Derived.Deep.QuietTactic
import Derived.BigQuiet
namespace Go.Proofs.YtkjaoandifednaaGreatDoor.W.Tr
open Go.ChangeShapes Go.WideShapes Go.RowKit Go.Shelf
set_option linter.unusedVariables false
set_option linter.unusedSimpArgs false
def nodV (k a c:Int) (t:ByteArray) (i b:Int):Value:=.agg #[.int .i64 k,.int .i64 a,.int .i64 c,.string t,.int .i64 i,.int .u64 b]
def numsP (k i b:Int):Bool:=if k=26 then decide (0≤i∧b=0) else if k=27 then decide (i=0∧(b≤9218868437227405312∨b=9221120237041090560)) else decide (i=0∧b=0)
set_option maxRecDepth 100000 in
set_option maxHeartbeats 4000000 in
theorem nums_c (k a c:Int) (t:ByteArray) (i b:Int) (w:World):Calls Tryz.prog 56 #[nodV k a c t i b] w fun e w'=>e=.returned (.bool (numsP k i b))∧Below w.heap.size w w':=by
 obtain ⟨q,hq⟩:∃ q,numsP k i b=q:=⟨_,rfl⟩
 rw [hq]
 unfold numsP at hq
 unfold nodV
 by_cases h1:k=26
 ·rw [if_pos h1] at hq
  subst h1
  by_cases h2:i ≥ 0
  ·by_cases h3:b=0
   ·have e:q=true:=by rw [← hq];simp;omega
    subst e
    clear hq
    (go_enter Tryz.func56,Tryz.ntmps56;go_wp2;go_ret;exact ⟨rfl,(Below.refl _ w).alloc (Nat.le_refl _) _⟩)
   ·have e:q=false:=by rw [← hq];simp;omega
    have g3:(b == 0)=false:=by simpa using h3
    subst e
    clear hq
    (go_enter Tryz.func56,Tryz.ntmps56;go_wp2;go_ret;exact ⟨rfl,(Below.refl _ w).alloc (Nat.le_refl _) _⟩)
  ·have e:q=false:=by rw [← hq];simp;omega
   subst e
   clear hq
   (go_enter Tryz.func56,Tryz.ntmps56;go_wp2;go_ret;exact ⟨rfl,(Below.refl _ w).alloc (Nat.le_refl _) _⟩)
 ·rw [if_neg h1] at hq
  by_cases h4:k=27
  ·rw [if_pos h4] at hq
   subst h4
   by_cases h2:i=0
   ·by_cases h3:b≤9218868437227405312
    ·have e:q=true:=by rw [← hq];simp;omega
     subst e
     clear hq
     (go_enter Tryz.func56,Tryz.ntmps56;go_wp2;go_ret;exact ⟨rfl,(Below.refl _ w).alloc (Nat.le_refl _) _⟩)
    ·by_cases h5:b=9221120237041090560
     ·have e:q=true:=by rw [← hq];simp;omega
      subst e
      clear hq
      (go_enter Tryz.func56,Tryz.ntmps56;go_wp2;go_ret;exact ⟨rfl,(Below.refl _ w).alloc (Nat.le_refl _) _⟩)
     ·have e:q=false:=by rw [← hq];simp;omega
      have g5:(b == 9221120237041090560)=false:=by simpa using h5
      subst e
      clear hq
      (go_enter Tryz.func56,Tryz.ntmps56;go_wp2;go_ret;exact ⟨rfl,(Below.refl _ w).alloc (Nat.le_refl _) _⟩)
   ·have e:q=false:=by rw [← hq];simp;omega
    subst e
    clear hq
    (go_enter Tryz.func56,Tryz.ntmps56;go_wp2;go_ret;exact ⟨rfl,(Below.refl _ w).alloc (Nat.le_refl _) _⟩)
  ·rw [if_neg h4] at hq
   by_cases h2:i=0
   ·by_cases h3:b=0
    ·have e:q=true:=by rw [← hq];simp;omega
     subst e
     clear hq
     (go_enter Tryz.func56,Tryz.ntmps56;go_wp2;go_ret;exact ⟨rfl,(Below.refl _ w).alloc (Nat.le_refl _) _⟩)
    ·have e:q=false:=by rw [← hq];simp;omega
     have g3:(b == 0)=false:=by simpa using h3
     subst e
     clear hq
     (go_enter Tryz.func56,Tryz.ntmps56;go_wp2;go_ret;exact ⟨rfl,(Below.refl _ w).alloc (Nat.le_refl _) _⟩)
   ·have e:q=false:=by rw [← hq];simp;omega
    subst e
    clear hq
    (go_enter Tryz.func56,Tryz.ntmps56;go_wp2;go_ret;exact ⟨rfl,(Below.refl _ w).alloc (Nat.le_refl _) _⟩)
def sortP (d c k:Int):Int:=if d=1 then 2 else if d=3 then (if k=c - 1 then 4 else 3) else if d=5 then 5 else if d=9 then (if k > 0 then 4 else 7) else if d=10 then (if k=c - 1 then 4 else 7) else if d=11 then (if k=c - 1 then 4 else if k=0 then (if c=4 then 6 else 7) else 7) else 7
set_option maxRecDepth 100000 in
set_option maxHeartbeats 4000000 in
theorem sort_c (d a c:Int) (t:ByteArray) (i b k:Int) (hc:0≤c∧c≤1000000) (w:World):Calls Tryz.prog 57 #[nodV d a c t i b,.int .i64 k] w fun e w'=>e=.returned (.int .i64 (sortP d c k))∧Below w.heap.size w w':=by
 obtain ⟨q,hq⟩:∃ q,q=sortP d c k:=⟨_,rfl⟩
 rw [← hq]
 unfold sortP at hq
 unfold nodV
 have e1:IntKind.i64.wrap (c - 1)=c - 1:=by rw [IntKind.wrap_i64];omega
 by_cases n1:d=1
 ·rw [if_pos n1] at hq
  subst n1
  subst hq
  (go_enter Tryz.func57,Tryz.ntmps57;go_wp2;go_ret;exact ⟨rfl,(Below.refl _ w).alloc (Nat.le_refl _) _⟩)
 rw [if_neg n1] at hq
 by_cases n3:d=3
 ·rw [if_pos n3] at hq
  subst n3
  by_cases h:k=c - 1
  ·rw [if_pos h] at hq
   have g:(k == c - 1)=true:=by simpa using h
   subst hq
   (go_enter Tryz.func57,Tryz.ntmps57;go_wp2;go_ret;exact ⟨rfl,(Below.refl _ w).alloc (Nat.le_refl _) _⟩)
  ·rw [if_neg h] at hq
   have g:(k == c - 1)=false:=by simpa using h
   subst hq
   (go_enter Tryz.func57,Tryz.ntmps57;go_wp2;go_ret;exact ⟨rfl,(Below.refl _ w).alloc (Nat.le_refl _) _⟩)
 rw [if_neg n3] at hq
 by_cases n5:d=5
 ·rw [if_pos n5] at hq
  subst n5
  subst hq
  (go_enter Tryz.func57,Tryz.ntmps57;go_wp2;go_ret;exact ⟨rfl,(Below.refl _ w).alloc (Nat.le_refl _) _⟩)
 rw [if_neg n5] at hq
 by_cases n9:d=9
 ·rw [if_pos n9] at hq
  subst n9
  by_cases h:k > 0
  ·rw [if_pos h] at hq
   skip
   subst hq
   (go_enter Tryz.func57,Tryz.ntmps57;go_wp2;go_ret;exact ⟨rfl,(Below.refl _ w).alloc (Nat.le_refl _) _⟩)
  ·rw [if_neg h] at hq
   skip
   subst hq
   (go_enter Tryz.func57,Tryz.ntmps57;go_wp2;go_ret;exact ⟨rfl,(Below.refl _ w).alloc (Nat.le_refl _) _⟩)
 rw [if_neg n9] at hq
 by_cases n10:d=10
 ·rw [if_pos n10] at hq
  subst n10
  by_cases h:k=c - 1
  ·rw [if_pos h] at hq
   have g:(k == c - 1)=true:=by simpa using h
   subst hq
   (go_enter Tryz.func57,Tryz.ntmps57;go_wp2;go_ret;exact ⟨rfl,(Below.refl _ w).alloc (Nat.le_refl _) _⟩)
  ·rw [if_neg h] at hq
   have g:(k == c - 1)=false:=by simpa using h
   subst hq
   (go_enter Tryz.func57,Tryz.ntmps57;go_wp2;go_ret;exact ⟨rfl,(Below.refl _ w).alloc (Nat.le_refl _) _⟩)
 rw [if_neg n10] at hq
 by_cases n11:d=11
 ·rw [if_pos n11] at hq
  subst n11
  by_cases h:k=c - 1
  ·rw [if_pos h] at hq
   have g:(k == c - 1)=true:=by simpa using h
   subst hq
   (go_enter Tryz.func57,Tryz.ntmps57;go_wp2;go_ret;exact ⟨rfl,(Below.refl _ w).alloc (Nat.le_refl _) _⟩)
  ·rw [if_neg h] at hq
   have g:(k == c - 1)=false:=by simpa using h
   by_cases h0:k=0
   ·rw [if_pos h0] at hq
    have g0:(k == 0)=true:=by simpa using h0
    by_cases h4:c=4
    ·rw [if_pos h4] at hq
     have g4:(c == 4)=true:=by simpa using h4
     subst hq
     (go_enter Tryz.func57,Tryz.ntmps57;go_wp2;go_ret;exact ⟨rfl,(Below.refl _ w).alloc (Nat.le_refl _) _⟩)
    ·rw [if_neg h4] at hq
     have g4:(c == 4)=false:=by simpa using h4
     subst hq
     (go_enter Tryz.func57,Tryz.ntmps57;go_wp2;go_ret;exact ⟨rfl,(Below.refl _ w).alloc (Nat.le_refl _) _⟩)
   ·rw [if_neg h0] at hq
    have g0:(k == 0)=false:=by simpa using h0
    subst hq
    (go_enter Tryz.func57,Tryz.ntmps57;go_wp2;go_ret;exact ⟨rfl,(Below.refl _ w).alloc (Nat.le_refl _) _⟩)
 rw [if_neg n11] at hq
 subst hq
 (go_enter Tryz.func57,Tryz.ntmps57;go_wp2;go_ret;exact ⟨rfl,(Below.refl _ w).alloc (Nat.le_refl _) _⟩)
structure BW (w:World) where
 w':World
 h:Below w.heap.size w w'
theorem wp_region_quiet_below {id:Nat} {Q:Exit→Act→World→Prop} {a:Act} {w:World} {l:List Oper} (hm:Tryz.prog.follows .mixedOrders=true) (hB:Region.lexB .any l.toArray=true)
  (h:wpQuiet Tryz.prog l.toArray (fun w'=>∃ p:BW w,w'=p.w') (fun a'=>∀ w',(∃ p:BW w,w'=p.w')→Q .normal a' w') l a):(Code.region id l.toArray true).wp Tryz.prog Q a w:=
 wp_region_quiet (C:=fun w'=>∃ p:BW w,w'=p.w') hm hB ⟨⟨w.drew,(Below.refl _ w).drew⟩,rfl⟩ (by simpa using h)
theorem BW.calls {P:Program} {f:FuncId} {args:Array Value} {w:World} {p:BW w} {v:Value} (h:Calls P f args p.w' fun e w'=>e=.returned v∧Below p.w'.heap.size p.w' w'):Calls P f args p.w' fun e w''=>e=.returned v∧∃ p':BW w,w''=p'.w':=
 h.mono fun _ w'' ⟨he,hB⟩=>⟨he,⟨w'',p.h.trans (hB.mono p.h.size)⟩,rfl⟩
theorem BW.cell {w:World} {a:Addr} {v:Value} (h:w.cell? a=some v) (p:BW w):p.w'.cell? a=some v:=It.below_cell p.h h
theorem ru_field (v0 v1 v2 v3:Value) (w:World):(Instr.field 111 (.agg #[v0,v1,v2,v3]) 0).run Tryz.prog w=.ok v0 w:=by kernel_rfl
def mayP (d c k m:Int):Bool:=decide ((d=9∧k=2∧m=9)∨(ruleP m).sort=sortP d c k)
theorem dec_eq (a b:Int):decide (a=b)=(a == b):=by by_cases h:a=b <;> simp [h]
set_option maxRecDepth 100000 in
set_option maxHeartbeats 4000000 in
theorem may_c (d a c:Int) (t:ByteArray) (i b k m:Int) (hc:0≤c∧c≤1000000) (w:World):Calls Tryz.prog 33 #[nodV d a c t i b,.int .i64 k,.int .i64 m] w fun e w'=>e=.returned (.bool (mayP d c k m))∧Below w.heap.size w w':=by
 have cr:=ruleOf_c m
 have cs:=fun w=>sort_c d a c t i b k hc w
 obtain ⟨q,hq⟩:∃ q,mayP d c k m=q:=⟨_,rfl⟩
 rw [hq]
 unfold mayP at hq
 unfold nodV at cs ⊢
 generalize ruleP m=r at *
 generalize sortP d c k=z at *
 unfold rulV at cr
 by_cases h:d=9∧k=2∧m=9
 ·obtain ⟨rfl,rfl,rfl⟩:=h
  have e:q=true:=by rw [← hq];simp
  subst e
  clear hq
  go_enter Tryz.func33,Tryz.ntmps33
  go_wp2
  go_ret
  exact ⟨rfl,(Below.refl _ w).alloc (Nat.le_refl _) _⟩
 ·have e:q=(r.sort == z):=by rw [← hq,← dec_eq];simp [h]
  subst e
  clear hq
  have bw:Below w.heap.size w (w.alloc (.cells #[.int .i64 d,.int .i64 a,.int .i64 c,.string t,.int .i64 i,.int .u64 b] 44)):=(Below.refl _ w).alloc (Nat.le_refl _) _
  have hn:=World.alloc_heap_new w (.cells #[.int .i64 d,.int .i64 a,.int .i64 c,.string t,.int .i64 i,.int .u64 b] 44)
  have hcut:(d == 9)=false∨(d == 9)=true∧(k == 2)=false∨(d == 9)=true∧(k == 2)=true∧(m == 9)=false:=by
   by_cases h1:d=9
   ·by_cases h2:k=2
    ·exact .inr (.inr ⟨by simpa using h1,by simpa using h2,by simpa using fun e=>h ⟨h1,h2,e⟩⟩)
    ·exact .inr (.inl ⟨by simpa using h1,by simpa using h2⟩)
   ·exact .inl (by simpa using h1)
  clear h
  rcases hcut with h1 | ⟨h1,h2⟩ | ⟨h1,h2,h3⟩
  all_goals
   go_enter Tryz.func33,Tryz.ntmps33
   go_upto_region 3 with fail
   generalize World.alloc w _=W at *
   have inst:Nonempty (BW W):=⟨⟨_,Below.refl _ _⟩⟩
   have c0:=BW.cell (show W.cell? ⟨w.heap.size,0,none⟩=some (.int .i64 d) from row_cellsX hn 0)
   have c1:=BW.cell (show W.cell? ⟨w.heap.size,1,none⟩=some (.int .i64 a) from row_cellsX hn 1)
   have c2:=BW.cell (show W.cell? ⟨w.heap.size,2,none⟩=some (.int .i64 c) from row_cellsX hn 2)
   have c3:=BW.cell (show W.cell? ⟨w.heap.size,3,none⟩=some (.string t) from row_cellsX hn 3)
   have c4:=BW.cell (show W.cell? ⟨w.heap.size,4,none⟩=some (.int .i64 i) from row_cellsX hn 4)
   have c5:=BW.cell (show W.cell? ⟨w.heap.size,5,none⟩=some (.int .u64 b) from row_cellsX hn 5)
   have ca:=fun (p:BW W)=>BW.calls (p:=p) (cr p.w')
   have cb:=fun (p:BW W)=>BW.calls (p:=p) (cs p.w')
   have hfd:=ru_field
   clear cr cs hn
   refine wp_region_quiet_below (by kernel_rfl) (by kernel_rfl) ?_
   repeat (go_big_quiet_step (first | (go_at_call 54;exact ca _) | (go_at_call 57;exact cb _)))
   refine wpQuiet_nil ?_
   intro _ hw'
   obtain ⟨pw,hw''⟩:=hw'
   subst hw''
   go_wp2
   go_ret
   exact ⟨rfl,bw.trans (pw.h.mono bw.size)⟩
end Go.Proofs.YtkjaoandifednaaGreatDoor.W.Tr

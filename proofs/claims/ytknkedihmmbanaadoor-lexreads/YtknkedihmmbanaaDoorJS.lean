import Derived.Test.YtknkedihmmbanaaDoorJC
import Derived.Test.YtknkedihmmbanaaDoorJP
import Derived.Test.YtknkedihmmbanaaDoorJR
import Derived.Sort.Grow
import Derived.Deep.QuietTactic
import Derived.BigQuiet
open List renaming mem_of_find?_eq_some → z1z
open Go.RowKit.Below renaming refl → z0z
open Go.Proofs.Tryd
set_option maxRecDepth 1000000
set_option maxHeartbeats 8000000
namespace Go.Proofs.YtknkedihmmbanaaDoor.W
set_option linter.unusedVariables false
theorem orPc_none{a b:Pc}(h:a.size=0):orPc a b=b:=if_pos h
theorem orPc_some{a b:Pc}(h:¬a.size=0):orPc a b=a:=if_neg h
theorem gap_none(c:UInt8)(r:List UInt8)(h1:c≠35)(h2:blankB c=false):(gapP (c::r)).size=0:=by
 show gapN (c::r)=0
 unfold gapN
 rw[if_neg (by intro h;injection h with h;exact h1 h),runN_cons_f h2]
section
variable {f a:Nat} {l:List UInt8} {p:Pc}
end
open Go.ChangeShapes Go.WideShapes Go.RowKit Go.Shelf
def TokRow(W:World)(B g cap:Nat)(Ys:List Yd):Prop:=B<=g/\g<W.heap.size/\Ys.length<=cap/\∀k,k<5*Ys.length->W.cell? ⟨g,k,none⟩=(rowsY Ys)[k]?
theorem TokRow.below{W W':World}{B g cap:Nat}{Ys:List Yd}(h:TokRow W B g cap Ys)(hB:Below W.heap.size W W'):TokRow W' B g cap Ys:=
 ⟨h.1,Nat.lt_of_lt_of_le h.2.1 hB.size,h.2.2.1,λk hk=>(hB.cell (p:=⟨g,k,none⟩) h.2.1).trans (h.2.2.2 k hk)⟩
theorem all_good(s:ByteArray)(hs:s.size<=1000000)(Ys:List Yd)(hY:srcY s.data.toList=Ys)(h0:∀y ∈ Ys,y.c=0)(hn:0<Ys.length)(w:World)(ht:Tabs w)(hm:MarksIn w) :
  Calls prog 9 #[.string s] w λe w'=>Below w.heap.size w w'/\∃g cap,e=.returned (.tuple #[.slice (some ⟨g,0,none⟩) Ys.length cap,.agg #[.int .i64 0,.int .i64 0]])/\TokRow w' w.heap.size g cap Ys:=by
 refine(all_c s hs w ht hm).mono ?_
 rintro e w' ⟨hB,h⟩
 rw[hY] at h
 rcases h with⟨y,h1,_⟩|⟨_,v,he,hown⟩
 ·have:=List.find?_some h1
  have hm:=z1z h1
  rw[h0 y hm] at this
  cases this
 ·refine⟨hB,?_⟩
  rcases hown.2 with⟨_,e0⟩|⟨g,cap,cur,rfl,h2,h3,h4,h5,h6,h7⟩
  ·omega
  ·refine⟨g,cap,he,h2,(Array.getElem?_eq_some_iff.1 h3).1,h4,λk hk=>?_⟩
   rw[cell_of_row _ g k _ _ _ h3,<- h7,List.getElem?_take,if_pos (by omega),Array.getElem?_toList]
theorem all_bad(s:ByteArray)(hs:s.size<=1000000)(y:Yd)(hY:(srcY s.data.toList).find? (λy=>y.c != 0)=some y)(w:World)(ht:Tabs w)(hm:MarksIn w) :
  Calls prog 9 #[.string s] w λe w'=>Below w.heap.size w w'/\e=.returned (.tuple #[.slice none 0 0,.agg #[.int .i64 y.c,.int .i64 y.f]]):=by
 refine(all_c s hs w ht hm).mono ?_
 rintro e w' ⟨hB,h⟩
 rcases h with⟨z,h1,h2⟩|⟨h0,_⟩
 ·obtain rfl:=Option.some.inj (hY.symm.trans h1)
  exact⟨hB,h2⟩
 ·have:=List.find?_some hY
  rw[h0 y (z1z hY)] at this
  cases this
def awakeY:List Yd:=[⟨⟨2,⟨#[108,101,116]⟩,0,0⟩,0,0,0⟩,⟨⟨1,⟨#[120]⟩,0,0⟩,4,0,0⟩,⟨⟨3,⟨#[61]⟩,0,0⟩,5,0,0⟩,⟨⟨4,⟨#[]⟩,1,0⟩,6,0,0⟩,⟨⟨3,⟨#[46,46]⟩,0,0⟩,7,0,0⟩,⟨⟨4,⟨#[]⟩,2,0⟩,9,0,0⟩,⟨endTk,14,0,0⟩]
theorem awake_src:srcY [108,101,116,32,120,61,49,46,46,50,32,35,32,121]=awakeY:=by kernel_rfl
theorem awake11_c(w:World)(ht:Tabs w)(hm:MarksIn w):Calls prog 12 #[] w λe w'=>e=.returned (.bool true)/\Below w.heap.size w w':=by
 have ca:=all_good ⟨#[108,101,116,32,120,61,49,46,46,50,32,35,32,121]⟩ (by decide) awakeY awake_src (by decide) (by decide) w ht hm
 clear ht hm
 have e7:awakeY.length=7:=rfl
 rw[e7] at ca
 clear e7
 go_enter func12,ntmps12
 go_wp2_with (go_at_call 9;(with_reducible refine ca.mono ?_);rintro e w2 ⟨hB2,g,cap,rfl,hr⟩;(obtain⟨r1,r2,r3,r4⟩:=hr.below ((z0z _ w2).alloc (Nat.le_refl _) (.cells #[.int .i64 0,.int .i64 0] 25)));(have hb:=hid hB2);(have rr:=hid (And.intro r1 (And.intro r2 r3)));(have c5:(w2.alloc (.cells #[.int .i64 0,.int .i64 0] 25)).cell? ⟨g,5,none⟩=some (.int .i64 1):=r4 5 (by decide));(have c6:(w2.alloc (.cells #[.int .i64 0,.int .i64 0] 25)).cell? ⟨g,6,none⟩=some (.int .i64 4):=r4 6 (by decide));(have c7:(w2.alloc (.cells #[.int .i64 0,.int .i64 0] 25)).cell? ⟨g,7,none⟩=some (.string ⟨#[120]⟩):=r4 7 (by decide));(have c8:(w2.alloc (.cells #[.int .i64 0,.int .i64 0] 25)).cell? ⟨g,8,none⟩=some (.int .i64 0):=r4 8 (by decide));(have c9:(w2.alloc (.cells #[.int .i64 0,.int .i64 0] 25)).cell? ⟨g,9,none⟩=some (.int .u64 0):=r4 9 (by decide));(have d0:(w2.alloc (.cells #[.int .i64 0,.int .i64 0] 25)).cell? ⟨g,20,none⟩=some (.int .i64 3):=r4 20 (by decide));(have d1:(w2.alloc (.cells #[.int .i64 0,.int .i64 0] 25)).cell? ⟨g,21,none⟩=some (.int .i64 7):=r4 21 (by decide));(have d2:(w2.alloc (.cells #[.int .i64 0,.int .i64 0] 25)).cell? ⟨g,22,none⟩=some (.string ⟨#[46,46]⟩):=r4 22 (by decide));(have d3:(w2.alloc (.cells #[.int .i64 0,.int .i64 0] 25)).cell? ⟨g,23,none⟩=some (.int .i64 0):=r4 23 (by decide));(have d4:(w2.alloc (.cells #[.int .i64 0,.int .i64 0] 25)).cell? ⟨g,24,none⟩=some (.int .u64 0):=r4 24 (by decide));(have f0:(w2.alloc (.cells #[.int .i64 0,.int .i64 0] 25)).cell? ⟨g,30,none⟩=some (.int .i64 7):=r4 30 (by decide));(have f1:(w2.alloc (.cells #[.int .i64 0,.int .i64 0] 25)).cell? ⟨g,31,none⟩=some (.int .i64 14):=r4 31 (by decide));clear r1 r2 r3 r4 hB2 ca)
 go_ret
 exact⟨by simp,(hb.out.alloc hb.out.size _)⟩
structure BW (w:World) where
 w':World
 h:Below w.heap.size w w'
theorem wp_region_quiet_below{id:Nat}{Q:Exit->Act->World->Prop}{a:Act}{w:World}{l:List Oper}(hm:prog.follows .mixedOrders=true)(hB:Region.lexB .any l.toArray=true)
  (h:wpQuiet prog l.toArray (λw'=>∃p:BW w,w'=p.w') (λa'=>∀w',(∃p:BW w,w'=p.w')->Q .normal a' w') l a):(Code.region id l.toArray true).wp prog Q a w:=
 wp_region_quiet (C:=λw'=>∃p:BW w,w'=p.w') hm hB ⟨⟨w.drew,(z0z _ w).drew⟩,rfl⟩ (by simpa using h)
theorem BW.cell{w:World}{a:Addr}{v:Value}(h:w.cell? a=some v)(p:BW w):p.w'.cell? a=some v:=It.below_cell p.h h
structure Sx (w W:World):Prop where
 bel:Below w.heap.size w W
 tabs:Tabs W
 marks:MarksIn W
theorem Sx.go{w W W':World}(h:Sx w W)(hb:Below W.heap.size W W'):Sx w W':=⟨h.bel.trans (hb.mono h.bel.size),h.tabs.below hb,h.marks.below hb⟩
theorem Sx.alloc{w W:World}(h:Sx w W)(o:Obj):Sx w (W.alloc o):=h.go ((z0z _ W).alloc (Nat.le_refl _) o)
theorem Sx.refl{w:World}(ht:Tabs w)(hm:MarksIn w):Sx w w:=⟨z0z _ w,ht,hm⟩
structure Blk (w:World) (b:Nat) (c:Array Value):Prop where
 lt:b<w.heap.size
 cells:∀i,w.cell? ⟨b,i,none⟩=c[i]?
theorem Blk.go{w w2:World}{b:Nat}{c:Array Value}(h:Blk w b c)(hb:Below w.heap.size w w2):Blk w2 b c:=
 ⟨Nat.lt_of_lt_of_le h.lt hb.size,λi=>by rw[hb.cell h.lt];exact h.cells i⟩
theorem Blk.alloc{w:World}{b:Nat}{c:Array Value}(h:Blk w b c)(o:Obj):Blk (w.alloc o) b c:=h.go ((z0z _ _).alloc (Nat.le_refl _) o)
theorem Blk.new(w:World)(c:Array Value)(t:TypeId):Blk (w.alloc (.cells c t)) w.heap.size c:=⟨by simp,λ_=>World.cell?_alloc_new w _ _ _⟩
end Go.Proofs.YtknkedihmmbanaaDoor.W

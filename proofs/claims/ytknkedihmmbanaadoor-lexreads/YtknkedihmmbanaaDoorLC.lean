import Derived.Test.YtknkedihmmbanaaDoorJS
import Derived.Test.YtknkedihmmbanaaDoorKY
open Nat renaming le_refl → z3z
open Go.World renaming alloc → z1z
open Go.RowKit.Below renaming refl → z0z
open Go.IntKind renaming i64 → z2z, wrap_i64 → z4z
open And renaming intro → z5z
open Go.Proofs.Tryd
set_option maxRecDepth 1000000
set_option maxHeartbeats 8000000
namespace Go.Proofs.YtknkedihmmbanaaDoor.W
open Go.ChangeShapes Go.WideShapes Go.RowKit Go.Shelf
set_option linter.unusedVariables false
theorem all_any(s:ByteArray)(hs:s.size<=1000000)(w:World)(ht:Tabs w)(hm:MarksIn w) :
  Calls prog 9 #[.string s] w λe w'=>Below w.heap.size w w'/\∃o n cap c f,e=.returned (.tuple #[.slice o n cap,.agg #[.int .i64 c,.int .i64 f]]):=by
 refine(all_c s hs w ht hm).mono ?_
 rintro e w' ⟨hB,h⟩
 refine⟨hB,?_⟩
 rcases h with⟨y,h1,h2⟩|⟨h0,v,he,hown⟩
 ·exact⟨none,0,0,_,_,h2⟩
 ·obtain⟨o,cap,rfl⟩:=slice_ofX hown
  exact⟨o,_,cap,0,0,he⟩
theorem lexTwo_long(A B:ByteArray)(h:5000<A.size\/5000<B.size)(w:World):Calls prog 6 #[.string A,.string B] w λe w'=>e=.returned (.bool true)/\Below w.heap.size w w':=by
 by_cases c:5000<A.size
 ·have c':(A.size:Int)>5000:=by omega
  clear h
  go_enter func6,ntmps6
  go_wp2
  go_ret
  exact⟨rfl,z0z _ _⟩
 ·have c':¬ (A.size:Int)>5000:=by omega
  have d':(B.size:Int)>5000:=by omega
  clear h
  go_enter func6,ntmps6
  go_wp2
  go_ret
  exact⟨rfl,z0z _ _⟩
theorem lexTwo_first(A B:ByteArray)(hA:A.size<=5000)(hB:B.size<=5000)(c f:Int)(hc:c≠0)(w:World)(ht:Tabs w)(hm:MarksIn w)
  (c1:∀w,Tabs w->MarksIn w->Calls prog 9 #[.string A] w λe w'=>Below w.heap.size w w'/\e=.returned (.tuple #[.slice none 0 0,.agg #[.int .i64 c,.int .i64 f]]))
  (c2:∀w,Tabs w->MarksIn w->Calls prog 9 #[.string B] w λe w'=>Below w.heap.size w w'/\∃o n cap c f,e=.returned (.tuple #[.slice o n cap,.agg #[.int .i64 c,.int .i64 f]]))
  (c3:∀w,Tabs w->MarksIn w->Calls prog 9 #[.string (A++⟨#[10]⟩++B)] w λe w'=>Below w.heap.size w w'/\∃o n cap c f,e=.returned (.tuple #[.slice o n cap,.agg #[.int .i64 c,.int .i64 f]])) :
  Calls prog 6 #[.string A,.string B] w λe w'=>e=.returned (.bool true)/\Below w.heap.size w w':=by
 have c':¬ (A.size:Int)>5000:=by omega
 have d':¬ (B.size:Int)>5000:=by omega
 have hS:=Sx.refl ht hm
 clear ht hm hA hB
 go_enter func6,ntmps6
 go_upto_region 4 with(go_at_call 9;(with_reducible refine(c1 _ hS.tabs hS.marks).mono ?_);rintro e wn ⟨hb,rfl⟩;(replace hS:=hS.go hb);clear hb)
 have f1:=Blk.new wn #[Value.int .i64 c,Value.int .i64 f] 25
 replace hS:=hS.alloc (Obj.cells #[Value.int .i64 c,Value.int .i64 f] 25)
 generalize z1z wn _=W1 at *
 generalize wn.heap.size=b1 at *
 go_upto_region 5 with(go_at_call 9;(with_reducible refine(c2 _ hS.tabs hS.marks).mono ?_);rintro e wn ⟨hb,o2,n2,k2,e2,g2,rfl⟩;(replace hS:=hS.go hb);(replace f1:=f1.go hb);clear hb)
 replace f1:=f1.alloc (Obj.cells #[Value.int .i64 e2,Value.int .i64 g2] 25)
 replace hS:=hS.alloc (Obj.cells #[Value.int .i64 e2,Value.int .i64 g2] 25)
 generalize z1z wn _=W2 at *
 generalize wn.heap.size=b2 at *
 go_upto_region 6 with(go_at_call 9;(with_reducible refine(c3 _ hS.tabs hS.marks).mono ?_);rintro e wn ⟨hb,o3,n3,k3,e3,g3,rfl⟩;(replace hS:=hS.go hb);(replace f1:=f1.go hb);clear hb)
 replace f1:=f1.alloc (Obj.cells #[Value.int .i64 e3,Value.int .i64 g3] 25)
 replace hS:=hS.alloc (Obj.cells #[Value.int .i64 e3,Value.int .i64 g3] 25)
 generalize z1z wn _=W3 at *
 generalize wn.heap.size=b3 at *
 have q0:=f1.cells 0
 simp at q0
 clear c1 c2 c3
 go_wp2_with (go_at_call 12;refine(awake11_c _ hS.tabs hS.marks).mono ?_;rintro e wn ⟨rfl,hb⟩;(replace hS:=hS.go hb);clear hb)
 go_ret
 exact⟨rfl,hS.bel⟩
theorem lexTwo_second(A B:ByteArray)(hA:A.size<=5000)(hB:B.size<=5000)(c f:Int)(hc:c≠0)(hf0:0<=f)(hf1:f<=5000)(w:World)(ht:Tabs w)(hm:MarksIn w)
  (c1:∀w,Tabs w->MarksIn w->Calls prog 9 #[.string A] w λe w'=>Below w.heap.size w w'/\∃o n cap,e=.returned (.tuple #[.slice o n cap,.agg #[.int .i64 0,.int .i64 0]]))
  (c2:∀w,Tabs w->MarksIn w->Calls prog 9 #[.string B] w λe w'=>Below w.heap.size w w'/\e=.returned (.tuple #[.slice none 0 0,.agg #[.int .i64 c,.int .i64 f]]))
  (c3:∀w,Tabs w->MarksIn w->Calls prog 9 #[.string (A++⟨#[10]⟩++B)] w λe w'=>Below w.heap.size w w'/\e=.returned (.tuple #[.slice none 0 0,.agg #[.int .i64 c,.int .i64 (f+(A.size:Nat)+1)]])) :
  Calls prog 6 #[.string A,.string B] w λe w'=>e=.returned (.bool true)/\Below w.heap.size w w':=by
 have c':¬ (A.size:Int)>5000:=by omega
 have d':¬ (B.size:Int)>5000:=by omega
 have w1:z2z.wrap (f+(A.size:Int))=f+(A.size:Int):=by rw[z4z];omega
 have w2:z2z.wrap (f+(A.size:Int)+1)=f+(A.size:Int)+1:=by rw[z4z];omega
 have hS:=Sx.refl ht hm
 clear ht hm hA hB hf0 hf1
 go_enter func6,ntmps6
 go_upto_region 4 with(go_at_call 9;(with_reducible refine(c1 _ hS.tabs hS.marks).mono ?_);rintro e wn ⟨hb,o1,n1,k1,rfl⟩;(replace hS:=hS.go hb);clear hb)
 have f1:=Blk.new wn #[Value.int .i64 0,Value.int .i64 0] 25
 replace hS:=hS.alloc (Obj.cells #[Value.int .i64 0,Value.int .i64 0] 25)
 generalize z1z wn _=W1 at *
 generalize wn.heap.size=b1 at *
 go_upto_region 5 with(go_at_call 9;(with_reducible refine(c2 _ hS.tabs hS.marks).mono ?_);rintro e wn ⟨hb,rfl⟩;(replace hS:=hS.go hb);(replace f1:=f1.go hb);clear hb)
 have f2:=Blk.new wn #[Value.int .i64 c,Value.int .i64 f] 25
 replace f1:=f1.alloc (Obj.cells #[Value.int .i64 c,Value.int .i64 f] 25)
 replace hS:=hS.alloc (Obj.cells #[Value.int .i64 c,Value.int .i64 f] 25)
 generalize z1z wn _=W2 at *
 generalize wn.heap.size=b2 at *
 go_upto_region 6 with(go_at_call 9;(with_reducible refine(c3 _ hS.tabs hS.marks).mono ?_);rintro e wn ⟨hb,rfl⟩;(replace hS:=hS.go hb);(replace f1:=f1.go hb);(replace f2:=f2.go hb);clear hb)
 have f3:=Blk.new wn #[Value.int .i64 c,Value.int .i64 (f+(A.size:Nat)+1)] 25
 replace f1:=f1.alloc (Obj.cells #[Value.int .i64 c,Value.int .i64 (f+(A.size:Nat)+1)] 25)
 replace f2:=f2.alloc (Obj.cells #[Value.int .i64 c,Value.int .i64 (f+(A.size:Nat)+1)] 25)
 replace hS:=hS.alloc (Obj.cells #[Value.int .i64 c,Value.int .i64 (f+(A.size:Nat)+1)] 25)
 generalize z1z wn _=W3 at *
 generalize wn.heap.size=b3 at *
 have q0:=f1.cells 0
 have q1:=f2.cells 0
 have q2:=f2.cells 1
 have q3:=f3.cells 0
 have q4:=f3.cells 1
 simp at q0 q1 q2 q3 q4
 clear c1 c2 c3
 go_wp2_with (go_at_call 12;refine(awake11_c _ hS.tabs hS.marks).mono ?_;rintro e wn ⟨rfl,hb⟩;(replace hS:=hS.go hb);clear hb)
 go_ret
 exact⟨rfl,hS.bel⟩
theorem rows_at(L:List Yd)(k j:Nat)(hk:k<L.length)(hj:j<5):(rowsY L)[k*5+j]? = (cellsA L[k])[j]?:=by
 induction L generalizing k with
 | nil=>simp at hk
 | cons y L ih=>
  unfold rowsY at ih ⊢
  rw[List.flatMap_cons]
  cases k with
  | zero=>
   rw[List.getElem?_append_left (by simp[cellsA];omega)]
   simp
  | succ k=>
   have h5:(cellsA y).toList.length=5:=rfl
   rw[List.getElem?_append_right (by rw[h5];omega),h5]
   have:=ih k (by simpa using hk)
   have e:(k+1)*5+j-5=k*5+j:=by omega
   rw[e,this]
   rfl
theorem TokRow.at{W:World}{B g cap:Nat}{L:List Yd}(h:TokRow W B g cap L)(k:Nat)(hk:k<L.length):W.cell? ⟨g,k*5,none⟩=some (.int .i64 L[k].t.kind)/\W.cell? ⟨g,k*5+1,none⟩=some (.int .i64 L[k].a)/\W.cell? ⟨g,k*5+2,none⟩=some (.string L[k].t.text)/\W.cell? ⟨g,k*5+3,none⟩=some (.int .i64 L[k].t.int)/\W.cell? ⟨g,k*5+4,none⟩=some (.int .u64 L[k].t.bits):=by
 refine⟨?_,?_,?_,?_,?_⟩
 ·have:=h.2.2.2 (k*5) (by omega);rw[this];have:=rows_at L k 0 hk (by omega);exact this
 ·have:=h.2.2.2 (k*5+1) (by omega);rw[this];exact rows_at L k 1 hk (by omega)
 ·have:=h.2.2.2 (k*5+2) (by omega);rw[this];exact rows_at L k 2 hk (by omega)
 ·have:=h.2.2.2 (k*5+3) (by omega);rw[this];exact rows_at L k 3 hk (by omega)
 ·have:=h.2.2.2 (k*5+4) (by omega);rw[this];exact rows_at L k 4 hk (by omega)
theorem lt_ar(t n1 n2 n3:Nat)(h1:n1=t+1)(h3:n3=t+n2)(hl:n1<=6000)(hl2:n2<=6000):z2z.wrap ((n1:Int)+(n2:Int))=(n1:Int)+(n2:Int)/\z2z.wrap ((n1:Int)+(n2:Int)-1)=(n3:Int)/\wrap64 ((n1:Int)+(n2:Int))=(n1:Int)+(n2:Int)/\wrap64 ((n1:Int)+(n2:Int)-1)=(n3:Int):=by
 refine⟨?_,?_,?_,?_⟩
 ·rw[z4z];omega
 ·rw[z4z];omega
 ·unfold wrap64;omega
 ·unfold wrap64;omega
theorem lt_ar2(t n1 j m s:Nat)(a:Int)(h1:n1=t+1)(hm:t+j=m)(hs:s<=5000)(hl:n1<=6000)(hj:j<=6000)(a0:0<=a)(a1:a<=6000):z2z.wrap ((j:Int)+1)=((j+1:Nat):Int)/\wrap64 ((j:Int)+1)=((j+1:Nat):Int)/\z2z.wrap ((n1:Int)-1)=(t:Int)/\wrap64 ((n1:Int)-1)=(t:Int)/\z2z.wrap ((t:Int)+(j:Int))=(m:Int)/\wrap64 ((t:Int)+(j:Int))=(m:Int)/\z2z.wrap ((s:Int)+1)=(s:Int)+1/\wrap64 ((s:Int)+1)=(s:Int)+1/\z2z.wrap (a+((s:Int)+1))=a+((s:Int)+1)/\wrap64 (a+((s:Int)+1))=a+((s:Int)+1):=by
 refine⟨?_,?_,?_,?_,?_,?_,?_,?_,?_,?_⟩ <;> first|(rw[z4z];omega)|(unfold wrap64;omega)
theorem lexTwo_good(A B:ByteArray)(hA:A.size<=5000)(hB:B.size<=5000)(tx X Y Z:List Yd)(n1 n2 n3:Nat)(hn1:X.length=n1)(hn2:Y.length=n2)(hn3:Z.length=n3)(h1:n1=tx.length+1)(h3:n3=tx.length+n2)(hl:n1<=6000)(hl2:n2<=6000)
  (hx:∀k (h:k<tx.length) (h1:k<X.length) (h3:k<Z.length),Z[k]=X[k])
  (hy:∀k (h2:k<Y.length) (h3:tx.length+k<Z.length),Z[tx.length+k].t=Y[k].t/\Z[tx.length+k].a=Y[k].a+((A.size:Nat)+1)) (hya:∀k (h2:k<Y.length),0<=Y[k].a/\Y[k].a<=6000) (w:World) (ht:Tabs w) (hm:MarksIn w)
  (c1:∀w,Tabs w->MarksIn w->Calls prog 9 #[.string A] w λe w'=>Below w.heap.size w w'/\∃g cap,e=.returned (.tuple #[.slice (some ⟨g,0,none⟩) n1 cap,.agg #[.int .i64 0,.int .i64 0]])/\TokRow w' w.heap.size g cap X)
  (c2:∀w,Tabs w->MarksIn w->Calls prog 9 #[.string B] w λe w'=>Below w.heap.size w w'/\∃g cap,e=.returned (.tuple #[.slice (some ⟨g,0,none⟩) n2 cap,.agg #[.int .i64 0,.int .i64 0]])/\TokRow w' w.heap.size g cap Y)
  (c3:∀w,Tabs w->MarksIn w->Calls prog 9 #[.string (A++⟨#[10]⟩++B)] w λe w'=>Below w.heap.size w w'/\∃g cap,e=.returned (.tuple #[.slice (some ⟨g,0,none⟩) n3 cap,.agg #[.int .i64 0,.int .i64 0]])/\TokRow w' w.heap.size g cap Z) :
  Calls prog 6 #[.string A,.string B] w λe w'=>e=.returned (.bool true)/\Below w.heap.size w w':=by
 have c':¬ (A.size:Int)>5000:=by omega
 have d':¬ (B.size:Int)>5000:=by omega
 obtain⟨v1,v2,v3,v4⟩:=lt_ar tx.length n1 n2 n3 h1 h3 hl hl2
 have hS:=Sx.refl ht hm
 have HA:=hid hA
 have HX:=hid hx
 have HY:=hid hy
 have HYA:=hid hya
 have HN:=hid (z5z hn1 (z5z hn2 (z5z hn3 (z5z h1 (z5z h3 (z5z hl hl2))))))
 clear ht hm hA hB hx hy hya hn1 hn2 hn3 h1 h3 hl hl2
 go_enter func6,ntmps6
 go_upto_region 4 with(go_at_call 9;(with_reducible refine(c1 _ hS.tabs hS.marks).mono ?_);rintro e wn ⟨hb,g1,k1,rfl,r1⟩;(replace hS:=hS.go hb);clear hb)
 have f1:=Blk.new wn #[Value.int .i64 0,Value.int .i64 0] 25
 replace hS:=hS.alloc (Obj.cells #[Value.int .i64 0,Value.int .i64 0] 25)
 replace r1:=r1.below ((z0z _ wn).alloc (z3z _) (Obj.cells #[Value.int .i64 0,Value.int .i64 0] 25))
 generalize z1z wn _=W1 at *
 generalize wn.heap.size=b1 at *
 go_upto_region 5 with(go_at_call 9;(with_reducible refine(c2 _ hS.tabs hS.marks).mono ?_);rintro e wn ⟨hb,g2,k2,rfl,r2⟩;(replace hS:=hS.go hb);(replace f1:=f1.go hb);(replace r1:=r1.below hb);clear hb)
 have f2:=Blk.new wn #[Value.int .i64 0,Value.int .i64 0] 25
 replace f1:=f1.alloc (Obj.cells #[Value.int .i64 0,Value.int .i64 0] 25)
 replace hS:=hS.alloc (Obj.cells #[Value.int .i64 0,Value.int .i64 0] 25)
 replace r1:=r1.below ((z0z _ wn).alloc (z3z _) (Obj.cells #[Value.int .i64 0,Value.int .i64 0] 25))
 replace r2:=r2.below ((z0z _ wn).alloc (z3z _) (Obj.cells #[Value.int .i64 0,Value.int .i64 0] 25))
 generalize z1z wn _=W2 at *
 generalize wn.heap.size=b2 at *
 go_upto_region 6 with(go_at_call 9;(with_reducible refine(c3 _ hS.tabs hS.marks).mono ?_);rintro e wn ⟨hb,g3,k3,rfl,r3⟩;(replace hS:=hS.go hb);(replace f1:=f1.go hb);(replace f2:=f2.go hb);(replace r1:=r1.below hb);(replace r2:=r2.below hb);clear hb)
 have f3:=Blk.new wn #[Value.int .i64 0,Value.int .i64 0] 25
 replace f1:=f1.alloc (Obj.cells #[Value.int .i64 0,Value.int .i64 0] 25)
 replace f2:=f2.alloc (Obj.cells #[Value.int .i64 0,Value.int .i64 0] 25)
 replace hS:=hS.alloc (Obj.cells #[Value.int .i64 0,Value.int .i64 0] 25)
 replace r1:=r1.below ((z0z _ wn).alloc (z3z _) (Obj.cells #[Value.int .i64 0,Value.int .i64 0] 25))
 replace r2:=r2.below ((z0z _ wn).alloc (z3z _) (Obj.cells #[Value.int .i64 0,Value.int .i64 0] 25))
 replace r3:=r3.below ((z0z _ wn).alloc (z3z _) (Obj.cells #[Value.int .i64 0,Value.int .i64 0] 25))
 generalize z1z wn _=W3 at *
 generalize wn.heap.size=b3 at *
 have q0:=f1.cells 0
 have q1:=f2.cells 0
 have q3:=f3.cells 0
 simp at q0 q1 q3
 have R1:=hid r1
 have R2:=hid r2
 have R3:=hid r3
 have HS:=hid hS
 clear c1 c2 c3 r1 r2 r3 f1 f2 f3 hS
 go_wp2_with fail
 clear q0 q1 q3 v1 v2 v3 v4 c' d'
 go_loopw [11] (λi wr=>∃k:Nat,i=.int .i64 k/\k<=tx.length/\Below W3.heap.size W3 wr) (λi _=>tx.length-(intOf i).toNat)
 case atStart=>exact⟨0,rfl,by omega,z0z _ _⟩
 case round=>
  obtain⟨k,rfl,hk,hB⟩:=hrel
  obtain⟨hn1,hn2,hn3,h1,h3,hl,hl2⟩:=HN.out
  have s1:=R1.out.below hB
  have s3:=R3.out.below hB
  have vk:z2z.wrap ((k:Int)+1)=((k+1:Nat):Int):=by rw[z4z];omega
  have vk2:wrap64 ((k:Int)+1)=((k+1:Nat):Int):=by unfold wrap64;omega
  by_cases c:k<tx.length
  ·have kx:k<X.length:=by omega
   have kz:k<Z.length:=by omega
   obtain⟨a0,a1,a2,a3,a4⟩:=s1.at k kx
   obtain⟨e0,e1,e2,e3,e4⟩:=s3.at k kz
   rw[HX.out k c kx kz] at e0 e1 e2 e3 e4
   generalize X[k]=y at *
   have l1:((k+1:Nat):Int)<(n1:Int):=by omega
   have l2:(k:Int)<(n1:Int):=by omega
   have l3:(k:Int)<(n3:Int):=by omega
   have l0:(0:Int)<=(k:Int):=by omega
   have HB:=hid hB
   have HK:=hid hk
   have HC:=hid c
   have HV:=hid vk2
   clear s1 s3 hn1 hn2 hn3 h1 h3 hl hl2 hB hk c kx kz
   go_upto_region 15 with fail
   have inst:Nonempty (BW wr):=⟨⟨_,z0z _ _⟩⟩
   have x0:=BW.cell a0
   have x1:=BW.cell a1
   have x2:=BW.cell a2
   have x3:=BW.cell a3
   have x4:=BW.cell a4
   have z0:=BW.cell e0
   have z1:=BW.cell e1
   have z2:=BW.cell e2
   have z3:=BW.cell e3
   have z4:=BW.cell e4
   clear a0 a1 a2 a3 a4 e0 e1 e2 e3 e4
   refine wp_region_quiet_below (by kernel_rfl) (by kernel_rfl) ?_
   repeat (go_big_quiet_step (fail))
   refine wpQuiet_nil ?_
   intro _ hw'
   obtain⟨pw,hw''⟩:=hw'
   subst hw''
   clear x0 x1 x2 x3 x4 z0 z1 z2 z3 z4 l0 l1 l2 l3
   go_wp2
   go_roundw
   case rel=>exact⟨k+1,by go_num,HC.out,HB.out.trans (pw.h.mono HB.out.size)⟩
   case measure=>have:=HC.out;simp[intOf];omega
  ·have ek:k=tx.length:=by omega
   have l1:¬ ((k+1:Nat):Int)<(n1:Int):=by omega
   have HB:=hid hB
   have HK:=hid ek
   have HS2:=hid (HS.out.go hB)
   have P2:=hid (R2.out.below hB)
   have P3:=hid s3
   clear s1 s3 hn1 hn2 hn3 h1 h3 hl hl2 hB hk c R1 R2 R3 HS HX ek
   go_wp2_with fail
   clear l1 vk vk2
   go_loopw [12] (λi wq=>∃j:Nat,i=.int .i64 j/\j<=n2/\Below wr.heap.size wr wq) (λi _=>n2-(intOf i).toNat)
   case atStart=>exact⟨0,rfl,by omega,z0z _ _⟩
   case round=>
    obtain⟨j,rfl,hj,hBq⟩:=hrel
    have s2:=P2.out.below hBq
    have s3:=P3.out.below hBq
    by_cases c:j<n2
    ·obtain⟨hn1,hn2,hn3,h1,h3,hl,hl2⟩:=HN.out
     have jy:j<Y.length:=by omega
     have jz:tx.length+j<Z.length:=by omega
     obtain⟨a0,a1,a2,a3,a4⟩:=s2.at j jy
     obtain⟨e0,e1,e2,e3,e4⟩:=s3.at (tx.length+j) jz
     have ya:=HYA.out j jy
     obtain⟨et,ea⟩:=HY.out j jy jz
     rw[et] at e0 e2 e3 e4
     rw[ea] at e1
     clear et ea
     generalize Y[j]=y at *
     have l2:(j:Int)<(n2:Int):=by omega
     have l0:(0:Int)<=(j:Int):=by omega
     obtain⟨m,hm⟩:∃m,tx.length+j=m:=⟨_,rfl⟩
     rw[hm] at e0 e1 e2 e3 e4
     have l3:(m:Int)<(n3:Int):=by omega
     have l4:(0:Int)<=(m:Int):=by omega
     obtain⟨o1,o2,o3,o4,o5,o6,o7,o8,o9,o10⟩:=lt_ar2 tx.length n1 j m A.size y.a h1 hm HA.out hl (by omega) ya.1 ya.2
     have HBq:=hid hBq
     have HC:=hid c
     have S3:=hid s3
     clear s2 s3 hn1 hn2 hn3 h1 h3 hl hl2 hBq hj c jy jz ya hm
     go_upto_region 22 with fail
     have f6:=Blk.new wr #[Value.int .i64 y.t.kind,Value.int .i64 (y.a+((A.size:Int)+1)),Value.string y.t.text,Value.int .i64 y.t.int,Value.int .u64 y.t.bits] 30
     have hB6:Below wr.heap.size wr (wr.alloc (Obj.cells #[Value.int .i64 y.t.kind,Value.int .i64 (y.a+((A.size:Int)+1)),Value.string y.t.text,Value.int .i64 y.t.int,Value.int .u64 y.t.bits] 30)):=(z0z _ wr).alloc (z3z _) _
     generalize z1z wr _=W6 at *
     have HB6:=hid (HBq.out.trans (hB6.mono HBq.out.size))
     have p0:=(hB6.cell (p:=⟨g3,m*5,none⟩) S3.out.2.1).trans e0
     have p1:=(hB6.cell (p:=⟨g3,m*5+1,none⟩) S3.out.2.1).trans e1
     have p2:=(hB6.cell (p:=⟨g3,m*5+2,none⟩) S3.out.2.1).trans e2
     have p3:=(hB6.cell (p:=⟨g3,m*5+3,none⟩) S3.out.2.1).trans e3
     have p4:=(hB6.cell (p:=⟨g3,m*5+4,none⟩) S3.out.2.1).trans e4
     generalize wr.heap.size=b6 at *
     have inst:Nonempty (BW W6):=⟨⟨_,z0z _ _⟩⟩
     have x0:=BW.cell (show W6.cell? ⟨b6,0,none⟩=some (.int .i64 y.t.kind) from f6.cells 0)
     have x1:=BW.cell (show W6.cell? ⟨b6,1,none⟩=some (.int .i64 (y.a+((A.size:Int)+1))) from f6.cells 1)
     have x2:=BW.cell (show W6.cell? ⟨b6,2,none⟩=some (.string y.t.text) from f6.cells 2)
     have x3:=BW.cell (show W6.cell? ⟨b6,3,none⟩=some (.int .i64 y.t.int) from f6.cells 3)
     have x4:=BW.cell (show W6.cell? ⟨b6,4,none⟩=some (.int .u64 y.t.bits) from f6.cells 4)
     have z0:=BW.cell p0
     have z1:=BW.cell p1
     have z2:=BW.cell p2
     have z3:=BW.cell p3
     have z4:=BW.cell p4
     clear p0 p1 p2 p3 p4 a0 a1 a2 a3 a4 e0 e1 e2 e3 e4 f6 hB6
     refine wp_region_quiet_below (by kernel_rfl) (by kernel_rfl) ?_
     repeat (go_big_quiet_step (fail))
     refine wpQuiet_nil ?_
     intro _ hw'
     obtain⟨pw,hw''⟩:=hw'
     subst hw''
     clear x0 x1 x2 x3 x4 z0 z1 z2 z3 z4 l0 l2 l3 l4
     go_wp2
     go_roundw
     case rel=>exact⟨j+1,by go_num,HC.out,HB6.out.trans (pw.h.mono HB6.out.size)⟩
     case measure=>have:=HC.out;simp[intOf];omega
    ·have l2:¬ (j:Int)<(n2:Int):=by omega
     have hS:=HS2.out.go hBq
     clear s2 s3 hBq hj c
     go_wp2_with (go_at_call 12;refine(awake11_c _ hS.tabs hS.marks).mono ?_;rintro e wn ⟨rfl,hb⟩;(replace hS:=hS.go hb);clear hb)
     go_ret
     exact⟨rfl,hS.bel⟩
end Go.Proofs.YtknkedihmmbanaaDoor.W

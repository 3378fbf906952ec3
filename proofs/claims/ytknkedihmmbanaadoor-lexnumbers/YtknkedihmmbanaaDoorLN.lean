import Derived.Test.YtknkedihmmbanaaDoorJS
import Derived.Test.YtknkedihmmbanaaDoorRows
import Derived.WalkKit
import Derived.ProofKit
import Derived.ChangeSame
import Derived.OpenShut
open Go.Proofs.Tryd
set_option maxRecDepth 1000000
set_option maxHeartbeats 8000000
namespace Go.Proofs.YtknkedihmmbanaaDoor.W
open Go.ChangeShapes Go.WideShapes Go.RowKit Go.Shelf
set_option linter.unusedVariables false
theorem lexNum_least(u:Int)(X:ByteArray)(w:World)(ht:Tabs w)(hm:MarksIn w)(n0:(X.toList==[])=false)
  (ct:∀w,Tabs w->Calls prog 13 #[.agg #[.bool true,.int .i64 (-9223372036854775808),.int .u64 u]] w λe w'=>e=.returned (.string X)/\Below w.heap.size w w')
  (cl:∀w,Tabs w->MarksIn w->Calls prog 9 #[.string X] w λe w'=>Below w.heap.size w w'/\e=.returned (.tuple #[.slice none 0 0,.agg #[.int .i64 62,.int .i64 1]])) :
  Calls prog 7 #[.agg #[.bool true,.int .i64 (-9223372036854775808),.int .u64 u]] w λe w'=>e=.returned (.bool true)/\Below w.heap.size w w':=by
 have f1:=Blk.new w #[Value.bool true,Value.int .i64 (-9223372036854775808),Value.int .u64 u] 42
 have hS:=(Sx.refl ht hm).alloc (Obj.cells #[Value.bool true,Value.int .i64 (-9223372036854775808),Value.int .u64 u] 42)
 clear ht hm
 go_enter func7,ntmps7
 go_upto_region 5 with(first|(go_at_call 13;(with_reducible refine(ct _ hS.tabs).mono ?_);rintro e wn ⟨rfl,hb⟩;(replace hS:=hS.go hb);(replace f1:=f1.go hb);clear hb)|(go_at_call 9;(with_reducible refine(cl _ hS.tabs hS.marks).mono ?_);rintro e wn ⟨hb,rfl⟩;(replace hS:=hS.go hb);(replace f1:=f1.go hb);clear hb))
 have f2:=Blk.new wn #[Value.int .i64 62,Value.int .i64 1] 25
 replace f1:=f1.alloc (Obj.cells #[Value.int .i64 62,Value.int .i64 1] 25)
 replace hS:=hS.alloc (Obj.cells #[Value.int .i64 62,Value.int .i64 1] 25)
 generalize World.alloc wn _=W2 at *
 generalize wn.heap.size=b2 at *
 have g0:=f1.cells 0
 have g1:=f1.cells 1
 have g3:=f2.cells 0
 have g4:=f2.cells 1
 simp at g0 g1 g3 g4
 go_wp2_with (go_at_call 12;refine(awake11_c _ hS.tabs hS.marks).mono ?_;rintro e wn ⟨rfl,hb⟩;(replace hS:=hS.go hb);clear hb)
 go_ret
 exact⟨rfl,hS.bel⟩
theorem lexNum_minus(b:Bool)(i u:Int)(X:ByteArray)(t:Tk)(x1 x2:Int)(w:World)(ht:Tabs w)(hm:MarksIn w)(n0:(X.toList==[])=false)(z:0<X.size)(hx:X[0].toNat=45)(hb0:b=true->(i == -9223372036854775808)=false)
  (ct:∀w,Tabs w->Calls prog 13 #[.agg #[.bool b,.int .i64 i,.int .u64 u]] w λe w'=>e=.returned (.string X)/\Below w.heap.size w w')
  (cl:∀w,Tabs w->MarksIn w->Calls prog 9 #[.string X] w λe w'=>Below w.heap.size w w'/\∃g cap,e=.returned (.tuple #[.slice (some ⟨g,0,none⟩) 3 cap,.agg #[.int .i64 0,.int .i64 0]])/\TokRow w' w.heap.size g cap [⟨⟨3,bytesOf [45],0,0⟩,0,0,0⟩,⟨t,x1,0,0⟩,⟨endTk,x2,0,0⟩]) :
  Calls prog 7 #[.agg #[.bool b,.int .i64 i,.int .u64 u]] w λe w'=>e=.returned (.bool true)/\Below w.heap.size w w':=by
 have f1:=Blk.new w #[Value.bool b,Value.int .i64 i,Value.int .u64 u] 42
 have hS:=(Sx.refl ht hm).alloc (Obj.cells #[Value.bool b,Value.int .i64 i,Value.int .u64 u] 42)
 have z0:(0:Int)<X.size:=by omega
 clear ht hm
 go_enter func7,ntmps7
 go_upto_region 5 with(first|(go_at_call 13;(with_reducible refine(ct _ hS.tabs).mono ?_);rintro e wn ⟨rfl,hb⟩;(replace hS:=hS.go hb);(replace f1:=f1.go hb);clear hb)|(go_at_call 9;(with_reducible refine(cl _ hS.tabs hS.marks).mono ?_);rintro e wn ⟨hb,g,cap,rfl,hr⟩;(replace hS:=hS.go hb);(replace f1:=f1.go hb);clear hb))
 have f2:=Blk.new wn #[Value.int .i64 0,Value.int .i64 0] 25;(replace hr:=hr.below ((Below.refl _ wn).alloc (Nat.le_refl _) (Obj.cells #[Value.int .i64 0,Value.int .i64 0] 25)));(replace f1:=f1.alloc (Obj.cells #[Value.int .i64 0,Value.int .i64 0] 25));(replace hS:=hS.alloc (Obj.cells #[Value.int .i64 0,Value.int .i64 0] 25));(generalize World.alloc wn _=W2 at *);(generalize wn.heap.size=b2 at *)
 have g0:=f1.cells 0;have g1:=f1.cells 1;have g3:=f2.cells 0;have g4:=f2.cells 1;simp at g0 g1 g3 g4
 have t2:W2.cell? ⟨g,2,none⟩=some (.string ⟨#[45]⟩):=hr.2.2.2 2 (by simp)
 clear hr ct cl
 cases b with
 | true=>
  have hi:=hb0 rfl
  clear hb0
  go_wp2_with (go_at_call 12;refine(awake11_c _ hS.tabs hS.marks).mono ?_;rintro e wn ⟨rfl,hb⟩;(replace hS:=hS.go hb);clear hb)
  go_ret
  exact⟨rfl,hS.bel⟩
 | false=>
  clear hb0
  go_wp2_with (go_at_call 12;refine(awake11_c _ hS.tabs hS.marks).mono ?_;rintro e wn ⟨rfl,hb⟩;(replace hS:=hS.go hb);clear hb)
  go_ret
  exact⟨rfl,hS.bel⟩
theorem lexNum_plain(b:Bool)(i u v c:Int)(X:ByteArray)(t:Tk)(w:World)(ht:Tabs w)(hm:MarksIn w)(n0:(X.toList==[])=false)(z:0<X.size)(hx:¬X[0].toNat=45)(hb0:b=true->(i == -9223372036854775808)=false)(h4:b=true->t.kind=4/\t.int=i)(h5:b=false->t.kind=5/\t.bits=v)
  (ct:∀w,Tabs w->Calls prog 13 #[.agg #[.bool b,.int .i64 i,.int .u64 u]] w λe w'=>e=.returned (.string X)/\Below w.heap.size w w')
  (cp:∀w,Tabs w->Calls prog 14 #[.string X] w λe w'=>e=.returned (.tuple #[.int .u64 v,.int .i64 c])/\Below w.heap.size w w')
  (cl:∀w,Tabs w->MarksIn w->Calls prog 9 #[.string X] w λe w'=>Below w.heap.size w w'/\∃g cap,e=.returned (.tuple #[.slice (some ⟨g,0,none⟩) 2 cap,.agg #[.int .i64 0,.int .i64 0]])/\TokRow w' w.heap.size g cap [⟨t,0,0,0⟩,⟨endTk,(X.size:Nat),0,0⟩]) :
  Calls prog 7 #[.agg #[.bool b,.int .i64 i,.int .u64 u]] w λe w'=>e=.returned (.bool true)/\Below w.heap.size w w':=by
 have f1:=Blk.new w #[Value.bool b,Value.int .i64 i,Value.int .u64 u] 42
 have hS:=(Sx.refl ht hm).alloc (Obj.cells #[Value.bool b,Value.int .i64 i,Value.int .u64 u] 42)
 have z0:(0:Int)<X.size:=by omega
 clear ht hm
 go_enter func7,ntmps7
 go_upto_region 5 with(first|(go_at_call 13;(with_reducible refine(ct _ hS.tabs).mono ?_);rintro e wn ⟨rfl,hb⟩;(replace hS:=hS.go hb);(replace f1:=f1.go hb);clear hb)|(go_at_call 9;(with_reducible refine(cl _ hS.tabs hS.marks).mono ?_);rintro e wn ⟨hb,g,cap,rfl,hr⟩;(replace hS:=hS.go hb);(replace f1:=f1.go hb);clear hb))
 have f2:=Blk.new wn #[Value.int .i64 0,Value.int .i64 0] 25;(replace hr:=hr.below ((Below.refl _ wn).alloc (Nat.le_refl _) (Obj.cells #[Value.int .i64 0,Value.int .i64 0] 25)));(replace f1:=f1.alloc (Obj.cells #[Value.int .i64 0,Value.int .i64 0] 25));(replace hS:=hS.alloc (Obj.cells #[Value.int .i64 0,Value.int .i64 0] 25));(generalize World.alloc wn _=W2 at *);(generalize wn.heap.size=b2 at *)
 have g0:=f1.cells 0
 have g1:=f1.cells 1
 have g3:=f2.cells 0
 have g4:=f2.cells 1
 simp at g0 g1 g3 g4
 have t0:W2.cell? ⟨g,0,none⟩=some (.int .i64 t.kind):=hr.2.2.2 0 (by simp)
 have t1:W2.cell? ⟨g,1,none⟩=some (.int .i64 0):=hr.2.2.2 1 (by simp)
 have t3:W2.cell? ⟨g,3,none⟩=some (.int .i64 t.int):=hr.2.2.2 3 (by simp)
 have t4:W2.cell? ⟨g,4,none⟩=some (.int .u64 t.bits):=hr.2.2.2 4 (by simp)
 have t6:W2.cell? ⟨g,6,none⟩=some (.int .i64 (X.size:Nat)):=hr.2.2.2 6 (by simp)
 cases b with
 | true=>
  obtain⟨k4,k5⟩:=h4 rfl
  rw[k4] at t0
  rw[k5] at t3
  have hi:=hb0 rfl
  clear hb0 h4 h5 cp ct cl hr
  go_upto_region 12 with fail
  have inst:Nonempty (BW W2):=⟨⟨_,Below.refl _ _⟩⟩
  have c0:=BW.cell t0
  have c3:=BW.cell t3
  have c1:=BW.cell g1
  have HS:=hid hS
  have ca:=λ(p:BW W2)=>BW.calls (awake11_c p.w' (HS.out.tabs.below p.h) (HS.out.marks.below p.h))
  clear t0 t1 t3 t4 t6 g0 g1 g3 g4 hS f1 f2
  refine wp_region_quiet_below (by kernel_rfl) (by kernel_rfl) ?_
  repeat (go_big_quiet_step ((go_at_call 12;exact ca _)))
  refine wpQuiet_nil ?_
  intro _ hw'
  obtain⟨pw,hw''⟩:=hw'
  subst hw''
  go_wp2
  go_ret
  exact⟨rfl,(HS.out.go pw.h).bel⟩
 | false=>
  obtain⟨k4,k5⟩:=h5 rfl
  rw[k4] at t0
  rw[k5] at t4
  clear hb0 h4 h5 ct cl
  go_upto_region 14 with(go_at_call 14;(with_reducible refine(cp _ hS.tabs).mono ?_);rintro e wn ⟨rfl,hb⟩;(replace hS:=hS.go hb);(replace hr:=hr.below hb);clear hb)
  have t0:wn.cell? ⟨g,0,none⟩=some (.int .i64 5):=by have:=hr.2.2.2 0 (by simp);rw[this];show some (Value.int .i64 t.kind)=_;rw[k4]
  have t4:wn.cell? ⟨g,4,none⟩=some (.int .u64 v):=by have:=hr.2.2.2 4 (by simp);rw[this];show some (Value.int .u64 t.bits)=_;rw[k5]
  clear t1 t3 t6 g0 g1 g3 g4 f1 f2 hr cp
  go_wp2_with (go_at_call 12;refine(awake11_c _ hS.tabs hS.marks).mono ?_;rintro e wn ⟨rfl,hb⟩;(replace hS:=hS.go hb);clear hb)
  go_ret
  exact⟨rfl,hS.bel⟩
theorem i64_wf{i:Int}(h:(Lit.int .i64 i).wf=true):-9223372036854775808<=i/\i<=9223372036854775807:=by
 simp[Lit.wf] at h
 have e1:IntKind.i64.min = -9223372036854775808:=by decide
 have e2:IntKind.i64.max=9223372036854775807:=by decide
 omega
theorem u64_wf{i:Int}(h:(Lit.int .u64 i).wf=true):0<=i/\i<18446744073709551616:=by
 simp[Lit.wf] at h
 have e1:IntKind.u64.min=0:=by decide
 have e2:IntKind.u64.max=18446744073709551615:=by decide
 omega
theorem list_ne{l:List UInt8}(h:0<l.length):((⟨l.toArray⟩:ByteArray).toList==[])=false:=by
 have e:(⟨l.toArray⟩:ByteArray).toList=l:=by rw[toList_eq]
 rw[e]
 cases l with
 | nil=>simp at h
 | cons a q=>rfl
theorem head_text{l:List UInt8}(h:0<l.length)(z:0<(⟨l.toArray⟩:ByteArray).size):l.head? = some (⟨l.toArray⟩:ByteArray)[0]:=by
 have:=get_at (⟨l.toArray⟩:ByteArray) 0 z
 rw[<- this,List.head?_eq_getElem?]
theorem lexNumbers_walk(b:Bool)(i u:Int)(x:(Lit.int .i64 i).wf=true)(y:(Lit.int .u64 u).wf=true)(w:World)(ht:Tabs w)(hm:MarksIn w) :
  Calls prog 7 #[.agg #[.bool b,.int .i64 i,.int .u64 u]] w λe w'=>e=.returned (.bool true)/\Below w.heap.size w w':=by
 obtain⟨i0,i1⟩:=i64_wf x
 obtain⟨u0,u1⟩:=u64_wf y
 obtain⟨hn,h0,h64⟩:=num_y b i u i0 i1 u0 u1
 have ct:=λw ht=>text_c b i u i0 i1 u0 u1 w ht
 obtain⟨l,hl⟩:∃l,numT b i u=l:=⟨_,rfl⟩
 rw[hl] at hn h0 h64 ct
 have hsz:=str_len l
 have hs:(⟨l.toArray⟩:ByteArray).size<=1000000:=by omega
 have hd:(⟨l.toArray⟩:ByteArray).data.toList=l:=by simp
 have z:0<(⟨l.toArray⟩:ByteArray).size:=by omega
 have hh:=head_text h0 z
 cases hn with
 | least h1 h2 h3=>
  subst h1 h2
  refine lexNum_least u ⟨l.toArray⟩ w ht hm (list_ne h0) ct (λw ht hm=>?_)
  exact all_bad ⟨l.toArray⟩ hs ⟨noTk,0,62,1⟩ (by rw[hd,h3];rfl) w ht hm
 | minus t r h1 h2 h3=>
  refine lexNum_minus b i u ⟨l.toArray⟩ t 1 (l.length:Nat) w ht hm (list_ne h0) z ?_ (λe=>by have:=h1 e;simpa using this) ct (λw ht hm=>?_)
  ·have:(⟨l.toArray⟩:ByteArray)[0]=45:=by
    have h2':l.head? = some 45:=by rw[h2];rfl
    exact Option.some.inj (hh.symm.trans h2')
   rw[this];rfl
  ·exact all_good ⟨l.toArray⟩ hs _ (by rw[hd,h3]) (by simp) (by simp) w ht hm
 | plain t h1 h2 h3 h4 h5=>
  refine lexNum_plain b i u _ (readF l).2 ⟨l.toArray⟩ t w ht hm (list_ne h0) z ?_ (λe=>by have:=h1 e;simpa using this) h4 h5 ct (λw ht=>?_) (λw ht hm=>?_)
  ·intro e
   apply h2
   rw[hh]
   congr 1
   exact UInt8.toNat_inj.1 e
  ·have:=parseFloat_c ⟨l.toArray⟩ (by rw[hsz];unfold maxLen;omega) w ht
   rw[hd] at this
   exact this
  ·rw[hsz]
   exact all_good ⟨l.toArray⟩ hs _ (by rw[hd,h3]) (by simp) (by simp) w ht hm
open Go.ChangeShapes Go.WideShapes Go.ChangeAt Go.RowKit
theorem cellsN:prog.cellsOf 42=3:=by kernel_rfl
theorem cellsB:prog.cellsOf 4=1:=by kernel_rfl
theorem cellsI:prog.cellsOf 2=1:=by kernel_rfl
theorem cellsU:prog.cellsOf 28=1:=by kernel_rfl
theorem fieldsN:∃f0 f1 f2:Field,prog.underlying 42=some (.struct #[f0,f1,f2])/\(f0.type=4/\f0.offset=0)/\(f1.type=2/\f1.offset=1)/\(f2.type=28/\f2.offset=2):=
 ⟨_,_,_,underlying42,⟨rfl,rfl⟩,⟨rfl,rfl⟩,⟨rfl,rfl⟩⟩
theorem open_num{H:Type}{enc:TypeId × Value->H}{w:World}{base b0:Nat}{spare:Nat->Bool}{held:Bool}{r:Reach}{v:Value}{d:DataW H}{ps:List MemPlace}
  (hval:Value.okWide prog w r b0 42 v) (hd:DataW.Trod enc prog w base spare held 42 v d ps) :
  ∃ (b:Bool) (i u:Int),v=.agg #[.bool b,.int .i64 i,.int .u64 u]/\d=.agg [.lit (.bool b),.lit (.int .i64 i),.lit (.int .u64 u)]/\ps=[]/\(Lit.int .i64 i).wf=true/\(Lit.int .u64 u).wf=true:=by
 obtain⟨f0,f1,f2,hu,⟨t0,o0⟩,⟨t1,o1⟩,⟨t2,o2⟩⟩:=fieldsN
 obtain⟨cs,rfl,hsz⟩:=okWide_struct hu hval
 rw[cellsN] at hsz
 obtain⟨l⟩:=cs
 match l,hsz with
 | [c0,c1,c2],_=>
  obtain⟨fuel,hf⟩:=hd
  obtain⟨xs,n,_,hx,_,hlen,hg⟩:=DataW.trod_struct hu hf
  match xs,hlen with
  | [y0,y1,y2],_=>
   have g0:=hg 0 f0 rfl
   have g1:=hg 1 f1 rfl
   have g2:=hg 2 f2 rfl
   rw[t0,o0,cellsB] at g0
   rw[t1,o1,cellsI] at g1
   rw[t2,o2,cellsU] at g2
   obtain⟨b,e0,hy0⟩:=DataW.trod_bool underlying4 g0
   obtain⟨i,e1,hy1,wi⟩:=DataW.trod_int underlying2 g1
   obtain⟨u,e2,hy2,wu⟩:=DataW.trod_int underlying28 g2
   simp[Value.cells] at e0 e1 e2
   subst e0 e1 e2
   rw[hy0,hy1,hy2] at hx
   simp at hx
   exact⟨b,i,u,rfl,hx.1,hx.2,wi,wu⟩
theorem shut_num{H:Type}{enc:TypeId × Value->H}{w:World}{base:Nat}{spare:Nat->Bool}{held:Bool}(b:Bool){i u:Int}(wi:(Lit.int .i64 i).wf=true)(wu:(Lit.int .u64 u).wf=true) :
  DataW.Trod enc prog w base spare held 42 (.agg #[.bool b,.int .i64 i,.int .u64 u]) (.agg [.lit (.bool b),.lit (.int .i64 i),.lit (.int .u64 u)]) []:=by
 obtain⟨f0,f1,f2,hu,⟨t0,o0⟩,⟨t1,o1⟩,⟨t2,o2⟩⟩:=fieldsN
 refine⟨2,?_⟩
 have f0':DataW.trod enc prog w base spare held 1 4 [.bool b]=some (.lit (.bool b),[]):=by simp[DataW.trod,underlying4]
 have f1':DataW.trod enc prog w base spare held 1 2 [.int .i64 i]=some (.lit (.int .i64 i),[]):=by simp[DataW.trod,underlying2,wi]
 have f2':DataW.trod enc prog w base spare held 1 28 [.int .u64 u]=some (.lit (.int .u64 u),[]):=by simp[DataW.trod,underlying28,wu]
 have h:=trod_struct_mk (enc:=enc) (w:=w) (base:=base) (spare:=spare) (held:=held) (n:=1) (cs:=[.bool b,.int .i64 i,.int .u64 u]) (xs:=[(.lit (.bool b),[]),(.lit (.int .i64 i),[]),(.lit (.int .u64 u),[])]) hu (by rw[cellsN];rfl) (by
  simp[t0,o0,t1,o1,t2,o2,cellsB,cellsI,cellsU,f0',f1',f2'])
 simpa [Value.cells] using h
end Go.Proofs.YtknkedihmmbanaaDoor.W

import Derived.Test.YtknkedihmmbanaaDoorRA
import Derived.Sort.CutIn
import Derived.Test.YtknkedihmmbanaaDoorLC
open List renaming replicate → z3z, set_cons_succ → z10z, set_cons_zero → z11z, getD_eq_getElem?_getD → z13z, getElem?_eq_getElem → z14z, setIfInBounds_toArray → z15z, drop_eq_getElem_cons → z16z
open Array renaming getElem?_eq_some_iff → z12z
open Nat renaming le_refl → z2z, le_trans → z5z
open Go.World renaming alloc → z0z, size_alloc → z4z, alloc_heap_new → z6z, putObj_heap_other → z9z
open Go.RowKit.Below renaming refl → z1z, heap_setCell → z7z
open And renaming intro → z8z
open Go.Proofs.Tryd
set_option maxRecDepth 1000000
set_option maxHeartbeats 8000000
namespace Go.Proofs.YtknkedihmmbanaaDoor.W
open Go.ChangeShapes Go.WideShapes Go.RowKit Go.Shelf
set_option linter.unusedVariables false
theorem boolT:prog.underlying 4=some .bool:=by kernel_rfl
theorem load_bool(w:World)(b:Nat)(v:Value)(h:w.cell? ⟨b,0,none⟩=some v):(loadVar 4 ⟨b,0,none⟩).run prog w=.ok v w:=by
 simp[loadVar,isAgg,run_underlying boolT,h,go_sem]
theorem bool_ret{fn:Func}{p:Tmp}(h:fn.results = #[.cell p 4])(tmps:Array Value)(w:World)(b:Nat)(v:Value)(fr:Nat × Nat)(t2:TypeId)(hp:tmps.getD p undef=.pointer (some ⟨b,0,none⟩))(hg:w.heap[b]? = some (.cells #[v] t2 fr)):(results fn tmps).run prog w=.ok v w:=by
 have hl:=load_bool w b v (cell_of_row w b 0 _ _ _ hg)
 have hp':tmps[p]?.getD undef=.pointer (some ⟨b,0,none⟩):=by simpa using hp
 simp[results,h,hp',asAddr,hl]
structure GoI (w:World) (s:ByteArray) (stop:Int) (Ys:List Yd) (i:Nat) (D:Nat->Prop) (W:World):Prop where
 bel:Below w.heap.size w W
 sz:w.heap.size+7<=W.heap.size
 b0:W.heap[w.heap.size]? = some (.cells #[.string s] 9 (0,0))
 b1:W.heap[w.heap.size+1]? = some (.cells #[.int .i64 stop] 3 (0,0))
 b2:W.heap[w.heap.size+2]? = some (.cells #[.bool false] 4 (0,0))
 b6:W.heap[w.heap.size+6]? = some (.cells #[.string s] 9 (0,0))
 b4:W.heap[w.heap.size+4]? = some (.cells #[.int .i64 (i:Int)] 3 (0,0))
 st:∃ (p:Int) (en:Bool),W.heap[w.heap.size+3]? = some (.cells #[.int .i64 p] 3 (0,0))/\W.heap[w.heap.size+5]? = some (.cells #[.bool en] 4 (0,0))/\((en=false/\∃k:Nat,p=(k:Int)/\k<=s.size/\T (s.data.toList.drop k) k=Ys.drop i)\/(en=true/\Ys.drop i=[]))
 dd:∀k,D k↔k=w.heap.size+3\/k=w.heap.size+4\/k=w.heap.size+5
structure GoX (w:World) (c:Code) (W:World):Prop where
 code:c=.ret
 bel:Below w.heap.size w W
 sz:w.heap.size+7<=W.heap.size
 b2:W.heap[w.heap.size+2]? = some (.cells #[.bool true] 4 (0,0))
section
variable {w W W':World} {s:ByteArray} {stop:Int} {Ys:List Yd} {i:Nat} {D:Nat->Prop}
theorem GoI.upd(q:GoI w s stop Ys i D W)(hu:It.Upd (λk=>k=w.heap.size+8) W W'):GoI w s stop Ys i D W':=by
 obtain⟨p,en,h1,h2,h3⟩:=q.st
 have z:=q.sz
 have kp:∀k o,k<w.heap.size+7->W.heap[k]? = some o->W'.heap[k]? = some o:=λk o hk e=>(hu.block k (by omega) (by omega)).trans e
 exact⟨⟨hu.os.trans q.bel.os,hu.tape.trans q.bel.tape,hu.output.trans q.bel.output,z5z q.bel.size hu.size,λk hk=>(hu.block k (by omega) (by omega)).trans (q.bel.block k hk)⟩,z5z z hu.size,kp _ _ (by omega) q.b0,kp _ _ (by omega) q.b1,kp _ _ (by omega) q.b2,kp _ _ (by omega) q.b6,kp _ _ (by omega) q.b4,⟨p,en,kp _ _ (by omega) h1,kp _ _ (by omega) h2,h3⟩,q.dd⟩
theorem GoX.upd{c:Code}(q:GoX w c W)(hu:It.Upd (λk=>k=w.heap.size+8) W W'):GoX w c W':=by
 have z:=q.sz
 have kp:∀k o,k<w.heap.size+7->W.heap[k]? = some o->W'.heap[k]? = some o:=λk o hk e=>(hu.block k (by omega) (by omega)).trans e
 exact⟨q.code,⟨hu.os.trans q.bel.os,hu.tape.trans q.bel.tape,hu.output.trans q.bel.output,z5z q.bel.size hu.size,λk hk=>(hu.block k (by omega) (by omega)).trans (q.bel.block k hk)⟩,z5z z hu.size,kp _ _ (by omega) q.b2⟩
end
def goA(a:Act)(y:Yd)(W:World):Act:={ tmps:=(((a.tmps.setIfInBounds 15 (tv y.t y.a)).setIfInBounds 16 (.agg #[.int .i64 y.c,.int .i64 y.f])).setIfInBounds 8 (.pointer (some ⟨W.heap.size,0,none⟩))).setIfInBounds 9 (.pointer (some ⟨W.heap.size+1,0,none⟩)),defers:=[] }
structure GoM (w Wb:World) (s:ByteArray) (stop:Int) (y:Yd) (V:Nat) (p:Int) (en:Bool) (n:Int) (r:Bool) (W:World):Prop where
 bel:Below w.heap.size w W
 big:w.heap.size+9<=V
 sz:V+2<=W.heap.size
 b0:W.heap[w.heap.size]? = some (.cells #[.string s] 9 (0,0))
 b1:W.heap[w.heap.size+1]? = some (.cells #[.int .i64 stop] 3 (0,0))
 b2:W.heap[w.heap.size+2]? = some (.cells #[.bool r] 4 (0,0))
 b3:W.heap[w.heap.size+3]? = some (.cells #[.int .i64 p] 3 (0,0))
 b4:W.heap[w.heap.size+4]? = some (.cells #[.int .i64 n] 3 (0,0))
 b5:W.heap[w.heap.size+5]? = some (.cells #[.bool en] 4 (0,0))
 b6:W.heap[w.heap.size+6]? = some (.cells #[.string s] 9 (0,0))
 tok:W.heap[V]? = some (.cells (cellsA y) 30 (0,0))
 flt:W.heap[V+1]? = some (.cells #[.int .i64 y.c,.int .i64 y.f] 25 (0,0))
 kp:∀k,k<Wb.heap.size->k≠w.heap.size+2->k≠w.heap.size+3->k≠w.heap.size+4->k≠w.heap.size+5->W.heap[k]? = Wb.heap[k]?
theorem goM_of{w W:World}{s:ByteArray}{stop:Int}{Ys:List Yd}{i:Nat}{D:Nat->Prop}{y:Yd}(q:GoI w s stop Ys i D W)(h6:w.heap.size+9<=W.heap.size)(o:Obj):∃ (p:Int) (en:Bool),GoM w ((allN y W).putObj (w.heap.size+8) o) s stop y W.heap.size p en (i:Int) false ((allN y W).putObj (w.heap.size+8) o)/\((en=false/\∃k:Nat,p=(k:Int)/\k<=s.size/\T (s.data.toList.drop k) k=Ys.drop i)\/(en=true/\Ys.drop i=[])):=by
 have hB:Below W.heap.size W (allN y W):=((z1z _ W).alloc (z2z _) _).alloc (by simp) _
 have q1:GoI w s stop Ys i D ((allN y W).putObj (w.heap.size+8) o):=(q.upd (It.Upd.of_below hB)).upd (It.upd_put (S:=λk=>k=w.heap.size+8) rfl o)
 obtain⟨p,en,h1,h2,h3⟩:=q1.st
 refine⟨p,en,⟨q1.bel,h6,?_,q1.b0,q1.b1,q1.b2,h1,q1.b4,h2,q1.b6,?_,?_,λ_ _ _ _ _ _=>rfl⟩,h3⟩
 ·simp[allN]
 ·rw[z9z (by omega)]
  exact(Below.heap_alloc _ _ _ (by simp)).trans (z6z W _)
 ·rw[z9z (by omega)]
  have:=z6z (W.alloc (.cells (cellsA y) 30)) (.cells #[.int .i64 y.c,.int .i64 y.f] 25)
  rwa [z4z] at this
section
variable {w Wb W:World} {s:ByteArray} {stop:Int} {y:Yd} {V:Nat} {p:Int} {en:Bool} {n:Int} {r:Bool}
theorem GoM.go{W':World}(h:GoM w Wb s stop y V p en n r W)(hb:Below W.heap.size W W')(hWb:Wb.heap.size<=W.heap.size):GoM w Wb s stop y V p en n r W':=by
 have z:=h.sz
 have g:=h.big
 have kp:∀k o,k<W.heap.size->W.heap[k]? = o->W'.heap[k]? = o:=λk o hk e=>(hb.block k hk).trans e
 exact⟨h.bel.trans (hb.mono h.bel.size),g,z5z z hb.size,kp _ _ (by omega) h.b0,kp _ _ (by omega) h.b1,kp _ _ (by omega) h.b2,kp _ _ (by omega) h.b3,kp _ _ (by omega) h.b4,kp _ _ (by omega) h.b5,kp _ _ (by omega) h.b6,kp _ _ (by omega) h.tok,kp _ _ (by omega) h.flt,λk h1 h2 h3 h4 h5=>kp _ _ (by omega) (h.kp k h1 h2 h3 h4 h5)⟩
theorem GoM.set3(h:GoM w Wb s stop y V p en n r W)(p':Int):GoM w Wb s stop y V p' en n r (W.setCell ⟨w.heap.size+1+1+1,0,none⟩ (.int .i64 p')):=by
 have z:=h.sz
 have g:=h.big
 have oth:∀ (j:Nat) (o:Option Obj),j≠w.heap.size+1+1+1->W.heap[j]? = o->(W.setCell ⟨w.heap.size+1+1+1,0,none⟩ (.int .i64 p')).heap[j]? = o:=λj o hj e=>(z7z _ _ _ _ hj).trans e
 exact⟨h.bel.setCell (p:=⟨w.heap.size+1+1+1,0,none⟩) (by show w.heap.size<=w.heap.size+1+1+1;omega) _,g,by simpa using z,oth _ _ (by omega) h.b0,oth _ _ (by omega) h.b1,oth _ _ (by omega) h.b2,heap_setX (c:=[.int .i64 p]) h.b3 0 _,oth _ _ (by omega) h.b4,oth _ _ (by omega) h.b5,oth _ _ (by omega) h.b6,oth _ _ (by omega) h.tok,oth _ _ (by omega) h.flt,λk h1 h2 h3 h4 h5=>oth _ _ (by omega) (h.kp k h1 h2 h3 h4 h5)⟩
theorem GoM.set4(h:GoM w Wb s stop y V p en n r W)(n':Int):GoM w Wb s stop y V p en n' r (W.setCell ⟨w.heap.size+1+1+1+1,0,none⟩ (.int .i64 n')):=by
 have z:=h.sz
 have g:=h.big
 have oth:∀ (j:Nat) (o:Option Obj),j≠w.heap.size+1+1+1+1->W.heap[j]? = o->(W.setCell ⟨w.heap.size+1+1+1+1,0,none⟩ (.int .i64 n')).heap[j]? = o:=λj o hj e=>(z7z _ _ _ _ hj).trans e
 exact⟨h.bel.setCell (p:=⟨w.heap.size+1+1+1+1,0,none⟩) (by show w.heap.size<=w.heap.size+1+1+1+1;omega) _,g,by simpa using z,oth _ _ (by omega) h.b0,oth _ _ (by omega) h.b1,oth _ _ (by omega) h.b2,oth _ _ (by omega) h.b3,heap_setX (c:=[.int .i64 n]) h.b4 0 _,oth _ _ (by omega) h.b5,oth _ _ (by omega) h.b6,oth _ _ (by omega) h.tok,oth _ _ (by omega) h.flt,λk h1 h2 h3 h4 h5=>oth _ _ (by omega) (h.kp k h1 h2 h3 h4 h5)⟩
theorem GoM.set5(h:GoM w Wb s stop y V p en n r W)(en':Bool):GoM w Wb s stop y V p en' n r (W.setCell ⟨w.heap.size+1+1+1+1+1,0,none⟩ (.bool en')):=by
 have z:=h.sz
 have g:=h.big
 have oth:∀ (j:Nat) (o:Option Obj),j≠w.heap.size+1+1+1+1+1->W.heap[j]? = o->(W.setCell ⟨w.heap.size+1+1+1+1+1,0,none⟩ (.bool en')).heap[j]? = o:=λj o hj e=>(z7z _ _ _ _ hj).trans e
 exact⟨h.bel.setCell (p:=⟨w.heap.size+1+1+1+1+1,0,none⟩) (by show w.heap.size<=w.heap.size+1+1+1+1+1;omega) _,g,by simpa using z,oth _ _ (by omega) h.b0,oth _ _ (by omega) h.b1,oth _ _ (by omega) h.b2,oth _ _ (by omega) h.b3,oth _ _ (by omega) h.b4,heap_setX (c:=[.bool en]) h.b5 0 _,oth _ _ (by omega) h.b6,oth _ _ (by omega) h.tok,oth _ _ (by omega) h.flt,λk h1 h2 h3 h4 h5=>oth _ _ (by omega) (h.kp k h1 h2 h3 h4 h5)⟩
theorem GoM.set2(h:GoM w Wb s stop y V p en n r W)(r':Bool):GoM w Wb s stop y V p en n r' (W.setCell ⟨w.heap.size+1+1,0,none⟩ (.bool r')):=by
 have z:=h.sz
 have g:=h.big
 have oth:∀ (j:Nat) (o:Option Obj),j≠w.heap.size+1+1->W.heap[j]? = o->(W.setCell ⟨w.heap.size+1+1,0,none⟩ (.bool r')).heap[j]? = o:=λj o hj e=>(z7z _ _ _ _ hj).trans e
 exact⟨h.bel.setCell (p:=⟨w.heap.size+1+1,0,none⟩) (by show w.heap.size<=w.heap.size+1+1;omega) _,g,by simpa using z,oth _ _ (by omega) h.b0,oth _ _ (by omega) h.b1,heap_setX (c:=[.bool r]) h.b2 0 _,oth _ _ (by omega) h.b3,oth _ _ (by omega) h.b4,oth _ _ (by omega) h.b5,oth _ _ (by omega) h.b6,oth _ _ (by omega) h.tok,oth _ _ (by omega) h.flt,λk h1 h2 h3 h4 h5=>oth _ _ (by omega) (h.kp k h1 h2 h3 h4 h5)⟩
end
set_option linter.unusedSimpArgs false
theorem go_start(w:World)(s:ByteArray)(stop:Int)(Ys:List Yd)(hT:T s.data.toList 0=Ys):GoI w s stop Ys 0 (λk=>k=w.heap.size+3\/k=w.heap.size+4\/k=w.heap.size+5) (((((((w.alloc (.cells #[.string s] 9)).alloc (.cells #[.int .i64 stop] 3)).alloc (.cells #[.bool false] 4)).alloc (.cells #[.int .i64 0] 3)).alloc (.cells #[.int .i64 0] 3)).alloc (.cells #[.bool false] 4)).alloc (.cells #[.string s] 9)):=by
 have old:∀ (W:World) (j:Nat) (v o:Obj),W.heap[j]? = some v->(W.alloc o).heap[j]? = some v:=λW j v o e=>(Below.heap_alloc _ _ _ (z12z.1 e).1).trans e
 have n0:=z6z w (.cells #[.string s] 9)
 have n1:=z6z (w.alloc (.cells #[.string s] 9)) (.cells #[.int .i64 stop] 3)
 have n2:=z6z ((w.alloc (.cells #[.string s] 9)).alloc (.cells #[.int .i64 stop] 3)) (.cells #[.bool false] 4)
 have n3:=z6z (((w.alloc (.cells #[.string s] 9)).alloc (.cells #[.int .i64 stop] 3)).alloc (.cells #[.bool false] 4)) (.cells #[.int .i64 0] 3)
 have n4:=z6z ((((w.alloc (.cells #[.string s] 9)).alloc (.cells #[.int .i64 stop] 3)).alloc (.cells #[.bool false] 4)).alloc (.cells #[.int .i64 0] 3)) (.cells #[.int .i64 0] 3)
 have n5:=z6z (((((w.alloc (.cells #[.string s] 9)).alloc (.cells #[.int .i64 stop] 3)).alloc (.cells #[.bool false] 4)).alloc (.cells #[.int .i64 0] 3)).alloc (.cells #[.int .i64 0] 3)) (.cells #[.bool false] 4)
 have n6:=z6z ((((((w.alloc (.cells #[.string s] 9)).alloc (.cells #[.int .i64 stop] 3)).alloc (.cells #[.bool false] 4)).alloc (.cells #[.int .i64 0] 3)).alloc (.cells #[.int .i64 0] 3)).alloc (.cells #[.bool false] 4)) (.cells #[.string s] 9)
 simp only[z4z] at n1 n2 n3 n4 n5 n6
 refine⟨?_,by simp,?_,?_,?_,n6,?_,⟨0,false,?_,?_,.inl ⟨rfl,0,rfl,Nat.zero_le _,by rw[List.drop_zero,hT];rfl⟩⟩,λk=>Iff.rfl⟩
 ·exact((((((((z1z _ w).alloc (z2z _) _).alloc (by simp) _).alloc (by simp only[z4z];omega) _).alloc (by simp only[z4z];omega) _).alloc (by simp only[z4z];omega) _).alloc (by simp only[z4z];omega) _).alloc (by simp only[z4z];omega) _)
 ·exact old _ _ _ _ (old _ _ _ _ (old _ _ _ _ (old _ _ _ _ (old _ _ _ _ (old _ _ _ _ n0)))))
 ·exact old _ _ _ _ (old _ _ _ _ (old _ _ _ _ (old _ _ _ _ (old _ _ _ _ n1))))
 ·exact old _ _ _ _ (old _ _ _ _ (old _ _ _ _ (old _ _ _ _ n2)))
 ·exact old _ _ _ _ (old _ _ _ _ n4)
 ·exact old _ _ _ _ (old _ _ _ _ (old _ _ _ _ n3))
 ·exact old _ _ _ _ n5
def GoesOn(s:ByteArray)(y:Yd)(rest:List Yd)(to':Int):Prop:=(y.c≠0/\rest=[])\/(y.c=0/\y.t.kind=7/\rest=[])\/(y.c=0/\y.t.kind≠7/\∃m:Nat,to'=(m:Int)/\m<=s.size/\rest=T (s.data.toList.drop m) m)
theorem go_ar(k:Nat)(h:k<=100000):IntKind.i64.wrap ((k:Int)+1)=(k:Int)+1/\wrap64 ((k:Int)+1)=(k:Int)+1:=by
 refine⟨?_,?_⟩
 ·rw[IntKind.wrap_i64];omega
 ·unfold wrap64;omega
theorem goes_core(s:ByteArray)(hs:s.size<=5000)(stop:Int)(Ys:List Yd)(hT0:T s.data.toList 0=Ys)(hlen:Ys.length<=5001)(hpos:∀ (r:List UInt8) a,T r a≠[])(hit:∀sb,IterD 17 #[.pointer (some ⟨sb,0,none⟩)] (Ys.map yy) (λW=>W.cell? ⟨sb,0,none⟩=some (.string s)/\Tabs W/\MarksIn W))
  (cb:∀ (a:Nat),a<=s.size->∀w,Calls prog 15 #[.string s,.int .i64 a] w λe w'=>w'=w/\∃k:Nat,e=.returned (.int .i64 k)/\a<=k/\k<=s.size/\T (s.data.toList.drop a) a=T (s.data.toList.drop k) k/\NoGap (s.data.toList.drop k))
  (cx:∀ (k:Nat),k<=s.size->NoGap (s.data.toList.drop k)->∀ (y:Yd) (rest:List Yd),T (s.data.toList.drop k) k=y::rest->∀w,Calls prog 16 #[.string s,.int .i64 k] w λe w'=>(∃to',e=.returned (.tuple #[.agg #[.int .i64 y.t.kind,.int .i64 y.a,.string y.t.text,.int .i64 y.t.int,.int .u64 y.t.bits],.int .i64 to',.agg #[.int .i64 y.c,.int .i64 y.f]])/\GoesOn s y rest to')/\Below w.heap.size w w') (w:World) (ht:Tabs w) (hm:MarksIn w) :
  Calls prog 11 #[.string s,.int .i64 stop] w λe w'=>e=.returned (.bool true)/\Below w.heap.size w w':=by
 have cv:=tokens_c
 refine(callsIn_wide (n:=9)).1 ?_
 refine callsIn_of_wp_marks func11 rfl trivial ?_ rfl
 refine wpIn_wide.2 ?_
 simp only[ntmps11,List.size_toArray,List.length_cons,List.length_nil,Nat.reduceAdd,Nat.reduceSub,Array.replicate_succ,Array.replicate_zero,List.push_toArray,List.append_toArray,List.nil_append,List.cons_append]
 have HS:=hid hs
 have CB:=hid cb
 have CX:=hid cx
 have HP:=hid hpos
 have HL:=hid hlen
 have HT0:=hid hT0
 clear hs cb cx hpos hlen hT0
 go_wp2_with (go_at_call 10;(with_reducible refine(cv _ _).mono ?_);rintro e w8 ⟨rfl,hw8⟩;(have hw':=hw8.symm);subst hw';clear hw8)
 have q0:GoI w s stop Ys 0 (λk=>k=w.heap.size+3\/k=w.heap.size+4\/k=w.heap.size+5) (((((((w.alloc (.cells #[.string s] 9)).alloc (.cells #[.int .i64 stop] 3)).alloc (.cells #[.bool false] 4)).alloc (.cells #[.int .i64 0] 3)).alloc (.cells #[.int .i64 0] 3)).alloc (.cells #[.bool false] 4)).alloc (.cells #[.string s] 9)):=go_start w s stop Ys HT0.out
 have z0:(((((((w.alloc (.cells #[.string s] 9)).alloc (.cells #[.int .i64 stop] 3)).alloc (.cells #[.bool false] 4)).alloc (.cells #[.int .i64 0] 3)).alloc (.cells #[.int .i64 0] 3)).alloc (.cells #[.bool false] 4)).alloc (.cells #[.string s] 9)).heap.size=w.heap.size+7:=by simp
 generalize z0z (z0z (z0z (z0z (z0z (z0z (z0z w _) _) _) _) _) _) _=W0 at *
 have hY:∀ (i:Nat) (hi:i<(Ys.map yy).length),(Ys.map yy)[i]=yy (Ys.getD i noYd):=λi hi=>by
  rw[List.getElem_map]
  congr 1
  rw[z13z,z14z (by simpa using hi)]
  rfl
 refine iterD_lawA (hit (w.heap.size+1+1+1+1+1+1)) eg_toks rfl (GoI w s stop Ys) (GoX w) ?hL ?hI ?hIx (λk=>k=w.heap.size+3\/k=w.heap.size+4\/k=w.heap.size+5) q0 (λi W=>goA { tmps:=#[.string s,.int .i64 stop,.pointer (some ⟨w.heap.size,0,none⟩),.pointer (some ⟨w.heap.size+1,0,none⟩),.pointer (some ⟨w.heap.size+1+1,0,none⟩),.pointer (some ⟨w.heap.size+1+1+1,0,none⟩),.pointer (some ⟨w.heap.size+1+1+1+1,0,none⟩),.pointer (some ⟨w.heap.size+1+1+1+1+1,0,none⟩),undef,undef,undef,undef,undef,.string s,.func (.func 17) #[] #[.pointer (some ⟨w.heap.size+1+1+1+1+1+1,0,none⟩)],undef,undef,undef,undef,undef,undef,undef,undef,undef,undef,undef,undef,undef,undef,undef,undef,undef,undef,undef,undef,undef,undef,undef,undef,undef,undef,undef,undef,undef,undef,undef,undef,undef,undef,undef,undef,undef,undef,undef,undef,undef],defers:=[] } (Ys.getD i noYd) W) (λi W=>allN (Ys.getD i noYd) W) ?hN ?hsz ?assign ?body ?done ?stop
 case hL=>
  intro i D W q
  refine⟨⟨cell_of_row _ _ 0 _ _ _ q.b6,ht.below q.bel,hm.below q.bel⟩,?_⟩
  intro k hk
  have:=q.sz
  rcases(q.dd k).1 hk with rfl|rfl|rfl <;> omega
 case hI=>
  intro i D W W' q hu
  rw[z0] at hu
  exact q.upd hu
 case hIx=>
  intro c W W' q hu
  rw[z0] at hu
  exact q.upd hu
 case hN=>intro i W;exact((z1z _ W).alloc (z2z _) _).alloc (by simp) _
 case hsz=>intro i hi;rw[hY i hi];rfl
 case assign=>
  intro L i hi W K hK
  rw[hY i hi]
  generalize Ys.getD i noYd=y at *
  obtain⟨t,ya,yc,yf⟩:=y
  simp only[yy,yv,tv,zip_two,z15z,z10z,z11z]
  gi_wp2_with (simp only[Oper.semAt];go_simp)
  exact hK
 case body=>
  intro L i hi D W o hLe q hsz9
  rw[z0] at hLe hsz9
  subst hLe
  obtain⟨y,hy⟩:∃y,Ys.getD i noYd=y:=⟨_,rfl⟩
  rw[hy]
  have hD:=hid q.dd
  obtain⟨p,en,M,hst⟩:=goM_of (y:=y) q hsz9 o
  rw[z0]
  generalize hWb:(allN y W).putObj (w.heap.size+7+1) o=Wb at *
  clear q hWb
  simp only[goA,tv,z15z,z10z,z11z]
  generalize W.heap.size=V at *
  have hil:i<Ys.length:=by simpa using hi
  have hy':Ys[i]=y:=by
   rw[z13z,z14z hil] at hy
   exact hy
  have hdr:Ys.drop i=y::Ys.drop (i+1):=by rw[z16z hil,hy']
  rw[hdr] at hst
  rcases hst with⟨rfl,k0,rfl,hk0,hT⟩|⟨_,h⟩
  rotate_left
  ·cases h
  have c0:Wb.cell? ⟨w.heap.size,0,none⟩=some (.string s):=row_cellsX M.b0 0
  have c3:Wb.cell? ⟨w.heap.size+1+1+1,0,none⟩=some (.int .i64 k0):=row_cellsX M.b3 0
  have c5:Wb.cell? ⟨w.heap.size+1+1+1+1+1,0,none⟩=some (.bool false):=row_cellsX M.b5 0
  have f3:=row_thawX M.b3
  have big:¬ (s.size:Int)>65536:=by have:=HS.out;omega
  have MM:=hid M
  have HVB:=hid (z8z M.sz (z8z M.big M.b2))
  have HK0:=hid hk0
  have HTk:=hid hT
  have HIL:=hid hil
  clear M hk0 hT hil hy' hdr hy hi hit q0 hY hm ht cv
  gi_upto_region 9 with(first|(simp only[Oper.semAt];go_simp)|((refine⟨trivial,?_⟩);gi_at_call 15;(refine(CallsIn.inRound _ (callsIn_wide.2 (CB.out k0 HK0.out _))).mono ?_);rintro e w' ⟨hw,k,rfl,g1,g2,g3,g4⟩;(have hw':=hw.symm);subst hw';clear hw))
  have M1:=MM.out.set3 (k:Int)
  have zb:Wb.heap.size<=(Wb.setCell ⟨w.heap.size+1+1+1,0,none⟩ (.int .i64 (k:Int))).heap.size:=by simp
  generalize Wb.setCell ⟨w.heap.size+1+1+1,0,none⟩ (.int .i64 (k:Int))=W1 at *
  replace c0:W1.cell? ⟨w.heap.size,0,none⟩=some (.string s):=row_cellsX M1.b0 0
  replace c3:W1.cell? ⟨w.heap.size+1+1+1,0,none⟩=some (.int .i64 k):=row_cellsX M1.b3 0
  have HG:=hid (z8z g2 (z8z g4 (show T (s.data.toList.drop k) k=y::Ys.drop (i+1) from g3.symm.trans HTk.out)))
  have M1H:=hid M1
  have ZB:=hid zb
  clear c5 f3 g1 g2 g3 g4 HTk HK0 MM M1 zb
  gi_upto_region 10 with(first|(simp only[Oper.semAt];go_simp)|((refine⟨trivial,?_⟩);gi_at_call 16;(refine(CallsIn.inRound _ (callsIn_wide.2 (CX.out k HG.out.1 HG.out.2.1 y _ HG.out.2.2 _))).mono ?_);rintro e w2 ⟨⟨to',rfl,hgo⟩,hb⟩))
  have HGO:=hid hgo
  have M2:=(M1H.out.go hb ZB.out).go (((z1z _ w2).alloc (z2z _) (.cells #[.int .i64 y.t.kind,.int .i64 y.a,.string y.t.text,.int .i64 y.t.int,.int .u64 y.t.bits] 30)).alloc (by simp) (.cells #[.int .i64 y.c,.int .i64 y.f] 25)) (z5z ZB.out hb.size)
  have f1:=(Blk.new w2 #[.int .i64 y.t.kind,.int .i64 y.a,.string y.t.text,.int .i64 y.t.int,.int .u64 y.t.bits] 30).alloc (.cells #[.int .i64 y.c,.int .i64 y.f] 25)
  have f2:=Blk.new (w2.alloc (.cells #[.int .i64 y.t.kind,.int .i64 y.a,.string y.t.text,.int .i64 y.t.int,.int .u64 y.t.bits] 30)) #[.int .i64 y.c,.int .i64 y.f] 25
  rw[z4z] at f2
  have zw:Wb.heap.size<=((w2.alloc (.cells #[.int .i64 y.t.kind,.int .i64 y.a,.string y.t.text,.int .i64 y.t.int,.int .u64 y.t.bits] 30)).alloc (.cells #[.int .i64 y.c,.int .i64 y.f] 25)).heap.size:=by have:=ZB.out;have:=hb.size;simp;omega
  clear hb hgo M1H ZB c0 c3 big
  generalize z0z (z0z w2 _) _=W2 at *
  generalize w2.heap.size=b2 at *
  have q0:=f1.cells 0
  have q1:=f1.cells 1
  have q2:=f1.cells 2
  have q3:=f1.cells 3
  have q4:=f1.cells 4
  have q5:=f2.cells 0
  have q6:=f2.cells 1
  simp at q0 q1 q2 q3 q4 q5 q6
  have t0:W2.cell? ⟨V,0,none⟩=some (.int .i64 y.t.kind):=row_cellsX M2.tok 0
  have t1:W2.cell? ⟨V,1,none⟩=some (.int .i64 y.a):=row_cellsX M2.tok 1
  have t2:W2.cell? ⟨V,2,none⟩=some (.string y.t.text):=row_cellsX M2.tok 2
  have t3:W2.cell? ⟨V,3,none⟩=some (.int .i64 y.t.int):=row_cellsX M2.tok 3
  have t4:W2.cell? ⟨V,4,none⟩=some (.int .u64 y.t.bits):=row_cellsX M2.tok 4
  have t5:W2.cell? ⟨V+1,0,none⟩=some (.int .i64 y.c):=row_cellsX M2.flt 0
  have t6:W2.cell? ⟨V+1,1,none⟩=some (.int .i64 y.f):=row_cellsX M2.flt 1
  have M2H:=hid M2
  have ZW:=hid zw
  clear f1 f2 M2 zw hsz9 HG CB CX
  gi_upto_region 12 with(simp only[Oper.semAt];go_simp)
  clear q1 q2 q3 q4 q6 t1 t2 t3 t4 t5 t6
  have c5:W2.cell? ⟨w.heap.size+1+1+1+1+1,0,none⟩=some (.bool false):=row_cellsX M2H.out.b5 0
  have f5:=row_thawX M2H.out.b5
  rcases HGO.out with⟨hc,hr⟩|⟨hc,h7,hr⟩|⟨hc,h7,m,rfl,hmm,hr⟩
  ·have HEN:=hid hr
   have hc1:(y.c != 0)=true:=by simpa using hc
   clear hr HGO hc
   gi_upto_region 13 with(simp only[Oper.semAt];go_simp)
   have M3:=M2H.out.set5 true
   generalize W2.setCell ⟨w.heap.size+1+1+1+1+1,0,none⟩ (.bool true)=W3 at *
   have c3:W3.cell? ⟨w.heap.size+1+1+1,0,none⟩=some (.int .i64 k):=row_cellsX M3.b3 0
   have f3:=row_thawX M3.b3
   clear q0 q5 t0 c5 f5 M2H hc1
   try clear hc2
   have M3H:=hid M3
   clear M3
   gi_upto_region 14 with(simp only[Oper.semAt];go_simp)
   have M4:=M3H.out.set3 (to')
   generalize W3.setCell ⟨w.heap.size+1+1+1,0,none⟩ (.int .i64 (to'))=W4 at *
   have c4:W4.cell? ⟨w.heap.size+1+1+1+1,0,none⟩=some (.int .i64 i):=row_cellsX M4.b4 0
   have f4:=row_thawX M4.b4
   obtain⟨v1,v2⟩:=go_ar i (by have:=HIL.out;have:=HL.out;omega)
   clear c3 f3 M3H
   have M4H:=hid M4
   clear M4
   gi_upto_region 15 with(simp only[Oper.semAt];go_simp)
   have M5:=M4H.out.set4 ((i:Int)+1)
   generalize W4.setCell ⟨w.heap.size+1+1+1+1,0,none⟩ (.int .i64 ((i:Int)+1))=W5 at *
   have c4':W5.cell? ⟨w.heap.size+1+1+1+1,0,none⟩=some (.int .i64 ((i:Int)+1)):=row_cellsX M5.b4 0
   have c1':W5.cell? ⟨w.heap.size+1,0,none⟩=some (.int .i64 stop):=row_cellsX M5.b1 0
   have c2':W5.cell? ⟨w.heap.size+1+1,0,none⟩=some (.bool false):=row_cellsX M5.b2 0
   have f2':=row_thawX M5.b2
   have M5H:=hid M5
   clear c4 f4 M4H M5 v1 v2
   by_cases hst:((i:Int)+1)=stop
   ·have hst':(((i:Int)+1)==stop)=true:=by simpa using hst
    clear hst
    gi_wp2_with (simp only[Oper.semAt];go_simp)
    have M6:=M5H.out.set2 true
    refine⟨⟨M6.kp _ (by have:=HVB.out.1;have:=HVB.out.2.1;omega) (by omega) (by omega) (by omega) (by omega),M6.kp _ (by have:=HVB.out.1;have:=HVB.out.2.1;omega) (by omega) (by omega) (by omega) (by omega)⟩,⟨rfl,M6.bel,by have:=M6.sz;have:=M6.big;omega,M6.b2⟩⟩
   ·have hst':(((i:Int)+1)==stop)=false:=by simpa using hst
    clear hst
    gi_wp2_with (simp only[Oper.semAt];go_simp)
    have M6:=M5H.out
    refine⟨⟨M6.kp _ (by have:=HVB.out.1;have:=HVB.out.2.1;omega) (by omega) (by omega) (by omega) (by omega),M6.kp _ (by have:=HVB.out.1;have:=HVB.out.2.1;omega) (by omega) (by omega) (by omega) (by omega)⟩,λk h1 h2=>?_,(λk=>k=w.heap.size+3\/k=w.heap.size+4\/k=w.heap.size+5),⟨M6.bel,by have:=M6.sz;have:=M6.big;omega,M6.b0,M6.b1,M6.b2,M6.b6,(by have:=M6.b4;exact this),⟨_,_,M6.b3,M6.b5,.inr ⟨rfl,HEN.out⟩⟩,λk=>Iff.rfl⟩⟩
    have h3:=λe=>h2 ((hD.out k).2 e)
    by_cases e2:k=w.heap.size+2
    ·rw[e2,M6.b2];exact HVB.out.2.2.symm
    ·exact M6.kp k h1 e2 (λe=>h3 (.inl e)) (λe=>h3 (.inr (.inl e))) (λe=>h3 (.inr (.inr e)))
  ·have HEN:=hid hr
   have hc1:(y.c != 0)=false:=by simpa using hc
   have hc2:(y.t.kind==7)=true:=by simpa using h7
   clear hr HGO hc h7
   gi_upto_region 13 with(simp only[Oper.semAt];go_simp)
   have M3:=M2H.out.set5 true
   generalize W2.setCell ⟨w.heap.size+1+1+1+1+1,0,none⟩ (.bool true)=W3 at *
   have c3:W3.cell? ⟨w.heap.size+1+1+1,0,none⟩=some (.int .i64 k):=row_cellsX M3.b3 0
   have f3:=row_thawX M3.b3
   clear q0 q5 t0 c5 f5 M2H hc1
   try clear hc2
   have M3H:=hid M3
   clear M3
   gi_upto_region 14 with(simp only[Oper.semAt];go_simp)
   have M4:=M3H.out.set3 (to')
   generalize W3.setCell ⟨w.heap.size+1+1+1,0,none⟩ (.int .i64 (to'))=W4 at *
   have c4:W4.cell? ⟨w.heap.size+1+1+1+1,0,none⟩=some (.int .i64 i):=row_cellsX M4.b4 0
   have f4:=row_thawX M4.b4
   obtain⟨v1,v2⟩:=go_ar i (by have:=HIL.out;have:=HL.out;omega)
   clear c3 f3 M3H
   have M4H:=hid M4
   clear M4
   gi_upto_region 15 with(simp only[Oper.semAt];go_simp)
   have M5:=M4H.out.set4 ((i:Int)+1)
   generalize W4.setCell ⟨w.heap.size+1+1+1+1,0,none⟩ (.int .i64 ((i:Int)+1))=W5 at *
   have c4':W5.cell? ⟨w.heap.size+1+1+1+1,0,none⟩=some (.int .i64 ((i:Int)+1)):=row_cellsX M5.b4 0
   have c1':W5.cell? ⟨w.heap.size+1,0,none⟩=some (.int .i64 stop):=row_cellsX M5.b1 0
   have c2':W5.cell? ⟨w.heap.size+1+1,0,none⟩=some (.bool false):=row_cellsX M5.b2 0
   have f2':=row_thawX M5.b2
   have M5H:=hid M5
   clear c4 f4 M4H M5 v1 v2
   by_cases hst:((i:Int)+1)=stop
   ·have hst':(((i:Int)+1)==stop)=true:=by simpa using hst
    clear hst
    gi_wp2_with (simp only[Oper.semAt];go_simp)
    have M6:=M5H.out.set2 true
    refine⟨⟨M6.kp _ (by have:=HVB.out.1;have:=HVB.out.2.1;omega) (by omega) (by omega) (by omega) (by omega),M6.kp _ (by have:=HVB.out.1;have:=HVB.out.2.1;omega) (by omega) (by omega) (by omega) (by omega)⟩,⟨rfl,M6.bel,by have:=M6.sz;have:=M6.big;omega,M6.b2⟩⟩
   ·have hst':(((i:Int)+1)==stop)=false:=by simpa using hst
    clear hst
    gi_wp2_with (simp only[Oper.semAt];go_simp)
    have M6:=M5H.out
    refine⟨⟨M6.kp _ (by have:=HVB.out.1;have:=HVB.out.2.1;omega) (by omega) (by omega) (by omega) (by omega),M6.kp _ (by have:=HVB.out.1;have:=HVB.out.2.1;omega) (by omega) (by omega) (by omega) (by omega)⟩,λk h1 h2=>?_,(λk=>k=w.heap.size+3\/k=w.heap.size+4\/k=w.heap.size+5),⟨M6.bel,by have:=M6.sz;have:=M6.big;omega,M6.b0,M6.b1,M6.b2,M6.b6,(by have:=M6.b4;exact this),⟨_,_,M6.b3,M6.b5,.inr ⟨rfl,HEN.out⟩⟩,λk=>Iff.rfl⟩⟩
    have h3:=λe=>h2 ((hD.out k).2 e)
    by_cases e2:k=w.heap.size+2
    ·rw[e2,M6.b2];exact HVB.out.2.2.symm
    ·exact M6.kp k h1 e2 (λe=>h3 (.inl e)) (λe=>h3 (.inr (.inl e))) (λe=>h3 (.inr (.inr e)))
  ·have HEN:=hid (show ∃k:Nat,((m:Nat):Int)=(k:Int)/\k<=s.size/\T (s.data.toList.drop k) k=Ys.drop (i+1) from⟨m,rfl,hmm,hr.symm⟩)
   have hc1:(y.c != 0)=false:=by simpa using hc
   have hc2:(y.t.kind==7)=false:=by simpa using h7
   clear hr HGO hmm hc h7
   gi_upto_region 13 with(simp only[Oper.semAt];go_simp)
   have M3:=M2H.out.set5 false
   generalize W2.setCell ⟨w.heap.size+1+1+1+1+1,0,none⟩ (.bool false)=W3 at *
   have c3:W3.cell? ⟨w.heap.size+1+1+1,0,none⟩=some (.int .i64 k):=row_cellsX M3.b3 0
   have f3:=row_thawX M3.b3
   clear q0 q5 t0 c5 f5 M2H hc1
   try clear hc2
   have M3H:=hid M3
   clear M3
   gi_upto_region 14 with(simp only[Oper.semAt];go_simp)
   have M4:=M3H.out.set3 ((m:Int))
   generalize W3.setCell ⟨w.heap.size+1+1+1,0,none⟩ (.int .i64 ((m:Int)))=W4 at *
   have c4:W4.cell? ⟨w.heap.size+1+1+1+1,0,none⟩=some (.int .i64 i):=row_cellsX M4.b4 0
   have f4:=row_thawX M4.b4
   obtain⟨v1,v2⟩:=go_ar i (by have:=HIL.out;have:=HL.out;omega)
   clear c3 f3 M3H
   have M4H:=hid M4
   clear M4
   gi_upto_region 15 with(simp only[Oper.semAt];go_simp)
   have M5:=M4H.out.set4 ((i:Int)+1)
   generalize W4.setCell ⟨w.heap.size+1+1+1+1,0,none⟩ (.int .i64 ((i:Int)+1))=W5 at *
   have c4':W5.cell? ⟨w.heap.size+1+1+1+1,0,none⟩=some (.int .i64 ((i:Int)+1)):=row_cellsX M5.b4 0
   have c1':W5.cell? ⟨w.heap.size+1,0,none⟩=some (.int .i64 stop):=row_cellsX M5.b1 0
   have c2':W5.cell? ⟨w.heap.size+1+1,0,none⟩=some (.bool false):=row_cellsX M5.b2 0
   have f2':=row_thawX M5.b2
   have M5H:=hid M5
   clear c4 f4 M4H M5 v1 v2
   by_cases hst:((i:Int)+1)=stop
   ·have hst':(((i:Int)+1)==stop)=true:=by simpa using hst
    clear hst
    gi_wp2_with (simp only[Oper.semAt];go_simp)
    have M6:=M5H.out.set2 true
    refine⟨⟨M6.kp _ (by have:=HVB.out.1;have:=HVB.out.2.1;omega) (by omega) (by omega) (by omega) (by omega),M6.kp _ (by have:=HVB.out.1;have:=HVB.out.2.1;omega) (by omega) (by omega) (by omega) (by omega)⟩,⟨rfl,M6.bel,by have:=M6.sz;have:=M6.big;omega,M6.b2⟩⟩
   ·have hst':(((i:Int)+1)==stop)=false:=by simpa using hst
    clear hst
    gi_wp2_with (simp only[Oper.semAt];go_simp)
    have M6:=M5H.out
    refine⟨⟨M6.kp _ (by have:=HVB.out.1;have:=HVB.out.2.1;omega) (by omega) (by omega) (by omega) (by omega),M6.kp _ (by have:=HVB.out.1;have:=HVB.out.2.1;omega) (by omega) (by omega) (by omega) (by omega)⟩,λk h1 h2=>?_,(λk=>k=w.heap.size+3\/k=w.heap.size+4\/k=w.heap.size+5),⟨M6.bel,by have:=M6.sz;have:=M6.big;omega,M6.b0,M6.b1,M6.b2,M6.b6,(by have:=M6.b4;exact this),⟨_,_,M6.b3,M6.b5,.inl ⟨rfl,HEN.out⟩⟩,λk=>Iff.rfl⟩⟩
    have h3:=λe=>h2 ((hD.out k).2 e)
    by_cases e2:k=w.heap.size+2
    ·rw[e2,M6.b2];exact HVB.out.2.2.symm
    ·exact M6.kp k h1 e2 (λe=>h3 (.inl e)) (λe=>h3 (.inr (.inl e))) (λe=>h3 (.inr (.inr e)))
 case done=>
  intro D W q hD
  rw[List.length_map] at q
  obtain⟨p,en,h1,h2,h3⟩:=q.st
  have hen:en=true:=by
   rcases h3 with⟨_,k,_,_,h⟩|⟨h,_⟩
   ·rw[List.drop_length] at h
    exact absurd h (HP.out _ _)
   ·exact h
  subst hen
  have k5:W.cell? ⟨w.heap.size+1+1+1+1+1,0,none⟩=some (.bool true):=row_cellsX h2 0
  have k2:W.cell? ⟨w.heap.size+1+1,0,none⟩=some (.bool false):=row_cellsX q.b2 0
  have g2:=row_thawX q.b2
  have QQ:=hid q
  rw[z0]
  rw[z0] at hD
  have HD:=hid hD
  clear q h1 h2 h3 hit q0 hY hm ht cv hD HS CB CX HP HL HT0
  go_wp2
  have u2:It.Upd (λk=>k=w.heap.size+2) W (W.setCell ⟨w.heap.size+1+1,0,none⟩ (.bool true)):=(It.Upd.refl (λk=>k=w.heap.size+2) W).setCell (p:=⟨w.heap.size+1+1,0,none⟩) (.inl rfl) _
  have b2:(W.setCell ⟨w.heap.size+1+1,0,none⟩ (.bool true)).heap[w.heap.size+2]? = some (.cells #[.bool true] 4 (0,0)):=heap_setX (c:=[.bool false]) QQ.out.b2 0 (.bool true)
  generalize W.setCell ⟨w.heap.size+1+1,0,none⟩ (.bool true)=Wd at *
  have hD2:Wd.heap[w.heap.size+7]? = some (.deferred (some [])):=(u2.block _ (z12z.1 HD.out).1 (by omega)).trans HD.out
  refine⟨by simp,.inl ⟨_,_,rfl,run_takeDeferred hD2,?_⟩⟩
  have u3:It.Upd (λk=>k=w.heap.size+2\/k=w.heap.size+7) W (Wd.putObj (w.heap.size+7) (.deferred none)):=(u2.mono (λk e=>.inl e)).trans' (It.upd_put (S:=λk=>k=w.heap.size+2\/k=w.heap.size+7) (.inr rfl) _)
  refine⟨_,bool_ret rfl _ _ (w.heap.size+1+1) _ (0,0) _ rfl ((z9z (by omega)).trans b2),?_⟩
  exact⟨rfl,⟨u3.os.trans QQ.out.bel.os,u3.tape.trans QQ.out.bel.tape,u3.output.trans QQ.out.bel.output,z5z QQ.out.bel.size u3.size,λk hk=>(u3.block k (by have:=QQ.out.sz;omega) (by omega)).trans (QQ.out.bel.block k hk)⟩⟩
 case stop=>
  intro c W q hD
  obtain rfl:=q.code
  rw[z0]
  rw[z0] at hD
  have QQ:=hid q
  clear hit q0 hY hm ht cv q HS CB CX HP HL HT0
  go_wp2
  refine⟨by simp,.inl ⟨_,_,rfl,run_takeDeferred hD,?_⟩⟩
  have u3:It.Upd (λk=>k=w.heap.size+7) W (W.putObj (w.heap.size+7) (.deferred none)):=It.upd_put (S:=λk=>k=w.heap.size+7) rfl _
  refine⟨_,bool_ret rfl _ _ (w.heap.size+1+1) _ (0,0) _ rfl ((z9z (by omega)).trans QQ.out.b2),?_⟩
  exact⟨rfl,⟨u3.os.trans QQ.out.bel.os,u3.tape.trans QQ.out.bel.tape,u3.output.trans QQ.out.bel.output,z5z QQ.out.bel.size u3.size,λk hk=>(u3.block k (by have:=QQ.out.sz;omega) (by omega)).trans (QQ.out.bel.block k hk)⟩⟩
def yK(K:Int):Yd:=⟨⟨K,⟨#[]⟩,0,0⟩,0,0,0⟩
def over(K:Int)(k:Nat)(Z:List Yd):List Yd:=z3z k (yK K)++Z.drop k
theorem over_zero(K:Int)(Z:List Yd):over K 0 Z=Z:=by simp[over]
theorem over_all(K:Int)(Z:List Yd):over K Z.length Z=z3z Z.length (yK K):=by simp[over]
theorem over_len(K:Int)(k:Nat)(Z:List Yd)(h:k<=Z.length):(over K k Z).length=Z.length:=by
 simp[over];omega
theorem over_at(K:Int)(k:Nat)(Z:List Yd)(h:k<Z.length)(h2:k<(over K k Z).length):(over K k Z)[k]=Z[k]:=by
 unfold over at h2 ⊢
 rw[List.getElem_append_right (by simp)]
 simp
theorem over_set(K:Int)(k:Nat)(Z:List Yd)(h:k<Z.length):(over K k Z).set k (yK K)=over K (k+1) Z:=by
 unfold over
 rw[z16z h,List.set_append_right _ _ (by simp),List.length_replicate,Nat.sub_self,z11z,List.replicate_succ',List.append_assoc]
 rfl
theorem rows_set(L:List Yd)(k:Nat)(y:Yd):rowsY (L.set k y)=(((((rowsY L).set (k*5) (.int .i64 y.t.kind)).set (k*5+1) (.int .i64 y.a)).set (k*5+2) (.string y.t.text)).set (k*5+3) (.int .i64 y.t.int)).set (k*5+4) (.int .u64 y.t.bits):=by
 induction L generalizing k with
 | nil=>simp[rowsY]
 | cons z L ih=>
  cases k with
  | zero=>simp[rowsY,cellsA]
  | succ k=>
   have e0:(k+1)*5=k*5+5:=by omega
   have:=ih k
   unfold rowsY at this ⊢
   rw[z10z,List.flatMap_cons,List.flatMap_cons,this,e0]
   simp[cellsA]
theorem rows_rep(K:Int)(m:Nat):rowsY (z3z (m+1) (yK K))=rowsY (z3z m (yK K))++[.int .i64 K,.int .i64 0,.string ⟨#[]⟩,.int .i64 0,.int .u64 0]:=by
 unfold rowsY
 rw[List.replicate_succ',List.flatMap_append]
 rfl
def RowT(W:World)(B:Nat)(o:Option Addr)(n cap:Nat)(L:List Yd):Prop:=W.ownsRow B 30 5 (.slice o n cap) n (rowsY L)
theorem RowT.at{W:World}{B g n cap:Nat}{L:List Yd}(h:RowT W B (some ⟨g,0,none⟩) n cap L)(hn:L.length=n)(k:Nat)(hk:k<L.length):W.cell? ⟨g,k*5,none⟩=some (.int .i64 L[k].t.kind)/\W.cell? ⟨g,k*5+1,none⟩=some (.int .i64 L[k].a)/\W.cell? ⟨g,k*5+2,none⟩=some (.string L[k].t.text)/\W.cell? ⟨g,k*5+3,none⟩=some (.int .i64 L[k].t.int)/\W.cell? ⟨g,k*5+4,none⟩=some (.int .u64 L[k].t.bits):=by
 have key:∀j,j<5->W.cell? ⟨g,k*5+j,none⟩=(cellsA L[k])[j]?:=λj hj=>by
  rw[<- rows_at L k j hk hj]
  exact h.cellAt (k*5+j) (by omega)
 exact⟨key 0 (by omega),key 1 (by omega),key 2 (by omega),key 3 (by omega),key 4 (by omega)⟩
theorem RowT.form{W:World}{B n cap:Nat}{o:Option Addr}{L:List Yd}(h:RowT W B o n cap L)(hn:0<n):∃g,o=some ⟨g,0,none⟩:=by
 rcases h.2 with⟨_,e0⟩|⟨g,cap',cur,e,_⟩
 ·omega
 ·simp only[Value.slice.injEq] at e
  exact⟨g,e.1⟩
theorem RowT.on{W W':World}{B n cap:Nat}{o:Option Addr}{L:List Yd}(h:RowT W B o n cap L)(hk:∀k,(Value.slice o n cap).ownBlock=some k->W'.heap[k]? = W.heap[k]?):RowT W' B o n cap L:=owns_onX h hk
theorem RowT.below{W W':World}{B n cap:Nat}{o:Option Addr}{L:List Yd}(h:RowT W B o n cap L)(hb:Below W.heap.size W W'):RowT W' B o n cap L:=h.on (λk e=>hb.block k (h.lt k e).2)
theorem RowT.write{W:World}{B g n cap:Nat}{L:List Yd}(h:RowT W B (some ⟨g,0,none⟩) n cap L)(k:Nat)(y:Yd) :
  RowT (((((W.setCell ⟨g,k*5,none⟩ (.int .i64 y.t.kind)).setCell ⟨g,k*5+1,none⟩ (.int .i64 y.a)).setCell ⟨g,k*5+2,none⟩ (.string y.t.text)).setCell ⟨g,k*5+3,none⟩ (.int .i64 y.t.int)).setCell ⟨g,k*5+4,none⟩ (.int .u64 y.t.bits)) B (some ⟨g,0,none⟩) n cap (L.set k y):=by
 unfold RowT
 rw[rows_set]
 exact(((((h.stored (k*5) _).1.stored (k*5+1) _).1.stored (k*5+2) _).1.stored (k*5+3) _).1.stored (k*5+4) _).1
theorem far5{W:World}{j g:Nat}(h:j≠g)(o0 o1 o2 o3 o4:Nat)(v0 v1 v2 v3 v4:Value):(((((W.setCell ⟨g,o0,none⟩ v0).setCell ⟨g,o1,none⟩ v1).setCell ⟨g,o2,none⟩ v2).setCell ⟨g,o3,none⟩ v3).setCell ⟨g,o4,none⟩ v4).heap[j]? = W.heap[j]?:=
 (z7z _ _ _ _ h).trans ((z7z _ _ _ _ h).trans ((z7z _ _ _ _ h).trans ((z7z _ _ _ _ h).trans (z7z _ _ _ _ h))))
theorem below5{w W:World}{g:Nat}(h:Below w.heap.size w W)(hg:w.heap.size<=g)(o0 o1 o2 o3 o4:Nat)(v0 v1 v2 v3 v4:Value):Below w.heap.size w (((((W.setCell ⟨g,o0,none⟩ v0).setCell ⟨g,o1,none⟩ v1).setCell ⟨g,o2,none⟩ v2).setCell ⟨g,o3,none⟩ v3).setCell ⟨g,o4,none⟩ v4):=
 ((((h.setCell (p:=⟨g,o0,none⟩) hg _).setCell (p:=⟨g,o1,none⟩) hg _).setCell (p:=⟨g,o2,none⟩) hg _).setCell (p:=⟨g,o3,none⟩) hg _).setCell (p:=⟨g,o4,none⟩) hg _
structure Three (w W:World) (P1 P2 P3:Nat) (o1 o2 o3:Option Addr) (m k1 k2 k3:Nat) (Z A B:List Yd):Prop where
 bel:Below w.heap.size w W
 p1:w.heap.size<=P1
 p2:P1<=P2
 p3:P2<=P3
 p4:P3<=W.heap.size
 r1:RowT W P1 o1 m k1 Z
 r2:RowT W P2 o2 m k2 A
 r3:RowT W P3 o3 m k3 B
 u1:∀j,(Value.slice o1 m k1).ownBlock=some j->j<P2
 u2:∀j,(Value.slice o2 m k2).ownBlock=some j->j<P3
section
variable {w W:World} {P1 P2 P3:Nat} {o1 o2 o3:Option Addr} {m k1 k2 k3:Nat} {Z A B:List Yd}
theorem Three.go{W':World}(h:Three w W P1 P2 P3 o1 o2 o3 m k1 k2 k3 Z A B)(hb:Below W.heap.size W W'):Three w W' P1 P2 P3 o1 o2 o3 m k1 k2 k3 Z A B:=
 ⟨h.bel.trans (hb.mono h.bel.size),h.p1,h.p2,h.p3,z5z h.p4 hb.size,h.r1.below hb,h.r2.below hb,h.r3.below hb,h.u1,h.u2⟩
theorem Three.write{g1 g2 g3:Nat}(h:Three w W P1 P2 P3 (some ⟨g1,0,none⟩) (some ⟨g2,0,none⟩) (some ⟨g3,0,none⟩) m k1 k2 k3 Z A B)(k:Nat)(a b:Yd) :
  Three w ((((((((((W.setCell ⟨g2,k*5,none⟩ (.int .i64 a.t.kind)).setCell ⟨g2,k*5+1,none⟩ (.int .i64 a.a)).setCell ⟨g2,k*5+2,none⟩ (.string a.t.text)).setCell ⟨g2,k*5+3,none⟩ (.int .i64 a.t.int)).setCell ⟨g2,k*5+4,none⟩ (.int .u64 a.t.bits)).setCell ⟨g3,k*5,none⟩ (.int .i64 b.t.kind)).setCell ⟨g3,k*5+1,none⟩ (.int .i64 b.a)).setCell ⟨g3,k*5+2,none⟩ (.string b.t.text)).setCell ⟨g3,k*5+3,none⟩ (.int .i64 b.t.int)).setCell ⟨g3,k*5+4,none⟩ (.int .u64 b.t.bits)) P1 P2 P3 (some ⟨g1,0,none⟩) (some ⟨g2,0,none⟩) (some ⟨g3,0,none⟩) m k1 k2 k3 Z (A.set k a) (B.set k b):=by
 have l2:=h.r2.lt g2 rfl
 have l3:=h.r3.lt g3 rfl
 have l1:=h.u1 g1 rfl
 have l4:=h.u2 g2 rfl
 have q1:=h.p1
 have q2:=h.p2
 have q3:=h.p3
 have q4:=h.p4
 have b1:=below5 h.bel (g:=g2) (by omega) (k*5) (k*5+1) (k*5+2) (k*5+3) (k*5+4) (.int .i64 a.t.kind) (.int .i64 a.a) (.string a.t.text) (.int .i64 a.t.int) (.int .u64 a.t.bits)
 have s2:=h.r2.write k a
 have s1:RowT _ P1 (some ⟨g1,0,none⟩) m k1 Z:=h.r1.on (λj e=>far5 (W:=W) (j:=j) (g:=g2) (by have:=h.u1 j e;omega) (k*5) (k*5+1) (k*5+2) (k*5+3) (k*5+4) (.int .i64 a.t.kind) (.int .i64 a.a) (.string a.t.text) (.int .i64 a.t.int) (.int .u64 a.t.bits))
 have s3:RowT _ P3 (some ⟨g3,0,none⟩) m k3 B:=h.r3.on (λj e=>far5 (W:=W) (j:=j) (g:=g2) (by have:=(h.r3.lt j e).1;omega) (k*5) (k*5+1) (k*5+2) (k*5+3) (k*5+4) (.int .i64 a.t.kind) (.int .i64 a.a) (.string a.t.text) (.int .i64 a.t.int) (.int .u64 a.t.bits))
 have z5:W.heap.size<=(((((W.setCell ⟨g2,k*5,none⟩ (.int .i64 a.t.kind)).setCell ⟨g2,k*5+1,none⟩ (.int .i64 a.a)).setCell ⟨g2,k*5+2,none⟩ (.string a.t.text)).setCell ⟨g2,k*5+3,none⟩ (.int .i64 a.t.int)).setCell ⟨g2,k*5+4,none⟩ (.int .u64 a.t.bits)).heap.size:=by simp
 generalize ((((W.setCell ⟨g2,k*5,none⟩ (.int .i64 a.t.kind)).setCell ⟨g2,k*5+1,none⟩ (.int .i64 a.a)).setCell ⟨g2,k*5+2,none⟩ (.string a.t.text)).setCell ⟨g2,k*5+3,none⟩ (.int .i64 a.t.int)).setCell ⟨g2,k*5+4,none⟩ (.int .u64 a.t.bits)=W5 at *
 refine⟨below5 b1 (g:=g3) (by omega) _ _ _ _ _ _ _ _ _ _,q1,q2,q3,?_,s1.on (λj e=>far5 (by have:=h.u1 j e;omega) _ _ _ _ _ _ _ _ _ _),s2.on (λj e=>far5 (by have:=h.u2 j e;omega) _ _ _ _ _ _ _ _ _ _),s3.write k b,h.u1,h.u2⟩
 simp only[World.size_setCell]
 omega
end
structure Two (w W:World) (P2 P3:Nat) (o2 o3:Option Addr) (m k2 k3:Nat) (A B:List Yd):Prop where
 bel:Below w.heap.size w W
 r2:RowT W P2 o2 m k2 A
 r3:RowT W P3 o3 m k3 B
theorem Two.go{w W W':World}{P2 P3:Nat}{o2 o3:Option Addr}{m k2 k3:Nat}{A B:List Yd}(h:Two w W P2 P3 o2 o3 m k2 k3 A B)(hb:Below W.heap.size W W'):Two w W' P2 P3 o2 o3 m k2 k3 A B:=
 ⟨h.bel.trans (hb.mono h.bel.size),h.r2.below hb,h.r3.below hb⟩
theorem lr_ar(k:Nat)(h:k<=100000):IntKind.i64.wrap ((k:Int)+1)=((k+1:Nat):Int)/\wrap64 ((k:Int)+1)=((k+1:Nat):Int):=by
 refine⟨?_,?_⟩
 ·rw[IntKind.wrap_i64];omega
 ·unfold wrap64;omega
theorem fn_nil(kf:Nat)(cs:Array Value)(w:World):(binOp .eql 32 (.func (.func kf) #[] cs) .nilFunc).run prog w=.ok (.bool false) w:=by kernel_rfl
theorem rep_at(K:Int)(m j:Nat)(h:j<(z3z m (yK K)).length):(z3z m (yK K))[j]=yK K:=by simp
theorem lexReads_core(s:ByteArray)(hs:s.size<=5000)(stop:Int)(Z:List Yd)(m:Nat)(hZ:Z.length=m)(hm5:m<=5001)(c f:Int)(w:World)(ht:Tabs w)(hm:MarksIn w)
  (c1:∀w,Calls prog 8 #[.string s] w λe w'=>Below w.heap.size w w'/\∃o cap,e=.returned (.tuple #[.slice o m cap,.agg #[.int .i64 c,.int .i64 f]])/\RowT w' w.heap.size o m cap Z)
  (c2:∀w,Tabs w->MarksIn w->Calls prog 9 #[.string s] w λe w'=>Below w.heap.size w w'/\∃o cap,e=.returned (.tuple #[.slice o m cap,.agg #[.int .i64 c,.int .i64 f]])/\RowT w' w.heap.size o m cap Z)
  (cg:∀stop w,Tabs w->MarksIn w->Calls prog 11 #[.string s,.int .i64 stop] w λe w'=>e=.returned (.bool true)/\Below w.heap.size w w') :
  Calls prog 3 #[.string s,.int .i64 stop] w λe w'=>e=.returned (.bool true)/\Below w.heap.size w w':=by
 have c':¬ (s.size:Int)>5000:=by omega
 have hS:=Sx.refl ht hm
 have HTM:=hid (z8z ht hm)
 have HZ:=hid (z8z hZ hm5)
 have CG:=hid cg
 obtain⟨i0,hi,hz0,hz1,hz2⟩:=info_parts infoTk
 clear ht hm hs hZ hm5 cg
 go_enter func3,ntmps3
 go_upto_region 4 with(go_at_call 8;(with_reducible refine(c1 _).mono ?_);rintro e wn ⟨hb,o1,k1,rfl,r1⟩;(replace hS:=hS.go hb);clear hb)
 have f1:=Blk.new wn #[Value.int .i64 c,Value.int .i64 f] 25
 replace hS:=hS.alloc (Obj.cells #[Value.int .i64 c,Value.int .i64 f] 25)
 replace r1:=r1.below ((z1z _ wn).alloc (z2z _) (Obj.cells #[Value.int .i64 c,Value.int .i64 f] 25))
 generalize z0z wn _=W1 at *
 generalize wn.heap.size=b1 at *
 have z1:=hS.bel.size
 have u1:∀j,(Value.slice o1 m k1).ownBlock=some j->j<W1.heap.size:=λj e=>(r1.lt j e).2
 go_upto_region 5 with(go_at_call 9;(with_reducible refine(c2 _ hS.tabs hS.marks).mono ?_);rintro e wn ⟨hb,o2,k2,rfl,r2⟩;(replace hS:=hS.go hb);(replace f1:=f1.go hb);(replace r1:=r1.below hb);(have z2:=hb.size);clear hb)
 have f2:=Blk.new wn #[Value.int .i64 c,Value.int .i64 f] 25
 replace hS:=hS.alloc (Obj.cells #[Value.int .i64 c,Value.int .i64 f] 25)
 replace f1:=f1.alloc (Obj.cells #[Value.int .i64 c,Value.int .i64 f] 25)
 replace r1:=r1.below ((z1z _ wn).alloc (z2z _) (Obj.cells #[Value.int .i64 c,Value.int .i64 f] 25))
 replace r2:=r2.below ((z1z _ wn).alloc (z2z _) (Obj.cells #[Value.int .i64 c,Value.int .i64 f] 25))
 replace z2:W1.heap.size<=(z0z wn (Obj.cells #[Value.int .i64 c,Value.int .i64 f] 25)).heap.size:=by rw[z4z];omega
 generalize z0z wn _=W2 at *
 generalize wn.heap.size=b2 at *
 have u2:∀j,(Value.slice o2 m k2).ownBlock=some j->j<W2.heap.size:=λj e=>(r2.lt j e).2
 go_upto_region 6 with(go_at_call 9;(with_reducible refine(c2 _ hS.tabs hS.marks).mono ?_);rintro e wn ⟨hb,o3,k3,rfl,r3⟩;(replace hS:=hS.go hb);(replace f1:=f1.go hb);(replace f2:=f2.go hb);(replace r1:=r1.below hb);(replace r2:=r2.below hb);(have z3:=hb.size);clear hb)
 have f3:=Blk.new wn #[Value.int .i64 c,Value.int .i64 f] 25
 replace hS:=hS.alloc (Obj.cells #[Value.int .i64 c,Value.int .i64 f] 25)
 replace f1:=f1.alloc (Obj.cells #[Value.int .i64 c,Value.int .i64 f] 25)
 replace f2:=f2.alloc (Obj.cells #[Value.int .i64 c,Value.int .i64 f] 25)
 replace r1:=r1.below ((z1z _ wn).alloc (z2z _) (Obj.cells #[Value.int .i64 c,Value.int .i64 f] 25))
 replace r2:=r2.below ((z1z _ wn).alloc (z2z _) (Obj.cells #[Value.int .i64 c,Value.int .i64 f] 25))
 replace r3:=r3.below ((z1z _ wn).alloc (z2z _) (Obj.cells #[Value.int .i64 c,Value.int .i64 f] 25))
 replace z3:W2.heap.size<=(z0z wn (Obj.cells #[Value.int .i64 c,Value.int .i64 f] 25)).heap.size:=by rw[z4z];omega
 generalize z0z wn _=W3 at *
 generalize wn.heap.size=b3 at *
 have q0:=f1.cells 0
 have q1:=f1.cells 1
 have q2:=f2.cells 0
 have q3:=f2.cells 1
 have q4:=f3.cells 0
 have q5:=f3.cells 1
 simp at q0 q1 q2 q3 q4 q5
 have T0:Three w W3 w.heap.size W1.heap.size W2.heap.size o1 o2 o3 m k1 k2 k3 Z Z Z:=⟨hS.bel,z2z _,z1,z2,z3,r1,r2,r3,u1,u2⟩
 have HT:=hid T0
 clear T0 z1 z2 z3 r1 r2 r3 u1 u2 f1 f2 f3 c1 c2
 generalize W1.heap.size=P2 at *
 generalize W2.heap.size=P3 at *
 clear hS
 go_wp2_with fail
 clear q0 q1 q2 q3 q4 q5
 go_loopw [11] (λi wr=>∃k:Nat,i=.int .i64 k/\k<=m/\Three w wr w.heap.size P2 P3 o1 o2 o3 m k1 k2 k3 Z (over 201 k Z) (over 202 k Z)) (λi _=>m-(intOf i).toNat)
 case atStart=>exact⟨0,rfl,Nat.zero_le _,by rw[over_zero,over_zero];exact HT.out⟩
 case round=>
  obtain⟨k,rfl,hk,hT⟩:=hrel
  obtain⟨v1,v2⟩:=lr_ar k (by have:=HZ.out;omega)
  clear HT
  by_cases ck:k<m
  ·obtain⟨g1,rfl⟩:=hT.r1.form (by omega)
   obtain⟨g2,rfl⟩:=hT.r2.form (by omega)
   obtain⟨g3,rfl⟩:=hT.r3.form (by omega)
   have kz:k<Z.length:=by rw[HZ.out.1];exact ck
   have l2:=over_len 201 k Z (by omega)
   have l3:=over_len 202 k Z (by omega)
   obtain⟨e0,e1,e2,e3,e4⟩:=hT.r1.at HZ.out.1 k kz
   obtain⟨a0,a1,a2,a3,a4⟩:=hT.r2.at (l2.trans HZ.out.1) k (by rw[l2];exact kz)
   obtain⟨d0,d1,d2,d3,d4⟩:=hT.r3.at (l3.trans HZ.out.1) k (by rw[l3];exact kz)
   rw[over_at 201 k Z kz] at a0 a1 a2 a3 a4
   rw[over_at 202 k Z kz] at d0 d1 d2 d3 d4
   have HKZ:=hid kz
   generalize Z[k]=y at *
   have x2:(k:Int)<(m:Int):=by omega
   have x0:(0:Int)<=(k:Int):=by omega
   have HTT:=hid hT
   have HC:=hid ck
   clear hT hk ck l2 l3
   go_upto_region 11 with fail
   have inst:Nonempty (BW wr):=⟨⟨_,z1z _ _⟩⟩
   have y0:=BW.cell a0
   have y1:=BW.cell a1
   have y2:=BW.cell a2
   have y3:=BW.cell a3
   have y4:=BW.cell a4
   have t0:=BW.cell d0
   have t1:=BW.cell d1
   have t2:=BW.cell d2
   have t3:=BW.cell d3
   have t4:=BW.cell d4
   have s0:=BW.cell e0
   have s1:=BW.cell e1
   have s2:=BW.cell e2
   have s3:=BW.cell e3
   have s4:=BW.cell e4
   clear a0 a1 a2 a3 a4 d0 d1 d2 d3 d4 e0 e1 e2 e3 e4
   refine wp_region_quiet_below (by kernel_rfl) (by kernel_rfl) ?_
   repeat (go_big_quiet_step (fail))
   refine wpQuiet_nil ?_
   intro _ hw'
   obtain⟨pw,hw''⟩:=hw'
   subst hw''
   have hT:=HTT.out.go pw.h
   replace y0:=y0 pw
   replace y1:=y1 pw
   replace y2:=y2 pw
   replace y3:=y3 pw
   replace y4:=y4 pw
   replace t0:=t0 pw
   replace t1:=t1 pw
   replace t2:=t2 pw
   replace t3:=t3 pw
   replace t4:=t4 pw
   clear s0 s1 s2 s3 s4 HTT inst
   generalize pw.w'=Wq at *
   have n1:¬g3=g2:=by have:=(hT.r3.lt g3 rfl).1;have:=hT.u2 g2 rfl;omega
   have n2:¬g2=g3:=λe=>n1 e.symm
   have z2:=hT.r2.frozenAt
   have z3:=hT.r3.frozenAt
   have HR:=hid (hT.write k (yK 201) (yK 202))
   clear hT pw
   go_wp2
   go_roundw
   case rel=>
    have:=HR.out
    rw[over_set 201 k Z HKZ.out,over_set 202 k Z HKZ.out] at this
    exact⟨k+1,by go_num,HC.out,this⟩
   case measure=>have:=HC.out;simp[intOf];omega
  ·have ek:k=m:=by omega
   subst ek
   have x2:¬ (k:Int)<(k:Int):=by omega
   have o201:over 201 k Z=z3z k (yK 201):=by have:=over_all 201 Z;rw[HZ.out.1] at this;exact this
   have o202:over 202 k Z=z3z k (yK 202):=by have:=over_all 202 Z;rw[HZ.out.1] at this;exact this
   rw[o201,o202] at hT
   have HTT:=hid hT
   clear hk ck v1 v2 hT o201 o202
   go_wp2_with (at_builtin;refine wpList_append_own_at _ rfl _ _ 22 rfl P2 30 i0 _ 5 48 rowT hi hz0 hz1 hz2 rfl (by decide) _ _ _ rfl (HTT.out.r2.alloc _) ⟨_,0,none⟩ 1 1 [.int .i64 201,.int .i64 0,.string ⟨#[]⟩,.int .i64 0,.int .u64 0] rfl rfl ?c1 ?c2 ?c3 ?c4 ?c5 ?_)
   case c2=>first|(intro u hu;simp at hu;rcases hu with rfl|rfl|rfl|rfl|rfl <;> rfl)|(simp;done)|exact⟨rfl,rfl,rfl,rfl,rfl⟩|rfl|decide
   case c3=>have:=HZ.out.2;unfold maxLen;omega
   case c4=>have:=HZ.out.2;omega
   case c5=>have:=HTT.out.p3;have:=HTT.out.p4;simp;omega
   ·intro v' w1 hown' hgrow _ hblk
    obtain⟨o8,c8,hv8⟩:=slice_ofX hown'
    subst hv8
    have R8:RowT w1 P2 o8 (k+1) c8 (z3z (k+1) (yK 201)):=by unfold RowT;rw[rows_rep];exact hown'
    have hU1:It.Upd (λj=>(Value.slice o2 k k2).ownBlock=some j) wr w1:=(It.Upd.of_below ((z1z _ wr).alloc (z2z _) _)).trans' ((It.Upd.refl _ _).grown hgrow (λj e=>.inl e))
    have hB1:Below w.heap.size w w1:=(HTT.out.bel.alloc HTT.out.bel.size _).grown hgrow (by have:=HTT.out.bel.size;simp;omega) (λj e=>by have:=(HTT.out.r2.lt j e).1;have:=HTT.out.p2;omega)
    have R3:RowT w1 P3 o3 k k3 (z3z k (yK 202)):=HTT.out.r3.on (λj e=>hU1.block j (HTT.out.r3.lt j e).2 (λe2=>by have:=HTT.out.u2 j e2;have:=(HTT.out.r3.lt j e).1;omega))
    have hne:∀j,(Value.slice o8 (k+1) c8).ownBlock=some j->¬ (Value.slice o3 k k3).ownBlock=some j:=by
     intro j e e3
     have l3:=HTT.out.r3.lt j e3
     rcases hblk with hb8|hb8
     ·rw[hb8] at e
      have:=HTT.out.u2 j e
      omega
     ·rw[hb8] at e
      injection e with e
      omega
    have hz1':P3<=w1.heap.size:=by have:=HTT.out.p4;have:=hU1.size;omega
    have HR8:=hid R8
    have HR3:=hid R3
    have HB1:=hid hB1
    have HNE:=hid hne
    have HZ1:=hid hz1'
    have HW3:=hid (show w.heap.size<=P3 by have:=HTT.out.p2;have:=HTT.out.p3;omega)
    clear R8 R3 hB1 hne hz1' hU1 hblk hgrow hown' HTT
    go_wp2_with (at_builtin;refine wpList_append_own_at _ rfl _ _ 22 rfl P3 30 i0 _ 5 48 rowT hi hz0 hz1 hz2 rfl (by decide) _ _ _ rfl (HR3.out.alloc _) ⟨_,0,none⟩ 1 1 [.int .i64 202,.int .i64 0,.string ⟨#[]⟩,.int .i64 0,.int .u64 0] rfl rfl ?d1 ?d2 ?d3 ?d4 ?d5 ?_)
    case d1=>
     intro j u hj
     match j,hj with
     | 0,hj=>simp at hj;subst hj;simp[Addr.add]
     | 1,hj=>simp at hj;subst hj;simp[Addr.add]
     | 2,hj=>simp at hj;subst hj;simp[Addr.add]
     | 3,hj=>simp at hj;subst hj;simp[Addr.add]
     | 4,hj=>simp at hj;subst hj;simp[Addr.add]
    case d2=>first|(intro u hu;simp at hu;rcases hu with rfl|rfl|rfl|rfl|rfl <;> rfl)|(simp;done)|exact⟨rfl,rfl,rfl,rfl,rfl⟩|rfl|decide
    case d3=>have:=HZ.out.2;unfold maxLen;omega
    case d4=>have:=HZ.out.2;omega
    case d5=>have:=HZ1.out;simp;omega
    ·intro v'' w2 hown2 hgrow2 _ _
     obtain⟨o9,c9,hv9⟩:=slice_ofX hown2
     subst hv9
     have R9:RowT w2 P3 o9 (k+1) c9 (z3z (k+1) (yK 202)):=by unfold RowT;rw[rows_rep];exact hown2
     have hU2:It.Upd (λj=>(Value.slice o3 k k3).ownBlock=some j) w1 w2:=(It.Upd.of_below ((z1z _ w1).alloc (z2z _) _)).trans' ((It.Upd.refl _ _).grown hgrow2 (λj e=>.inl e))
     have hB2:Below w.heap.size w w2:=(HB1.out.alloc HB1.out.size _).grown hgrow2 (by have:=HB1.out.size;simp;omega) (λj e=>by have:=(HR3.out.lt j e).1;have:=HW3.out;omega)
     have R8:RowT w2 P2 o8 (k+1) c8 (z3z (k+1) (yK 201)):=HR8.out.on (λj e=>hU2.block j (HR8.out.lt j e).2 (HNE.out j e))
     have H2:=hid (Two.mk hB2 R8 R9)
     clear R9 R8 hB2 hU2 hgrow2 hown2 HR8 HR3 HB1 HNE HZ1 HW3
     obtain⟨M,hM⟩:∃M,k+1=M:=⟨_,rfl⟩
     rw[hM] at H2 ⊢
     have HM:=hid (show M<=5002 by have:=HZ.out;omega)
     clear hM
     go_wp2_with fail
     go_loopw [12] (λi wq=>∃j:Nat,i=.int .i64 j/\j<=M/\wq=w2) (λi _=>M-(intOf i).toNat)
     case atStart=>exact⟨0,rfl,by omega,rfl⟩
     case round=>
      obtain⟨j,rfl,hj,hq⟩:=hrel
      have hq':=hq.symm
      subst hq'
      clear hq
      obtain⟨vj,vj2⟩:=lr_ar j (by have:=HM.out;omega)
      by_cases cj:j<M
      ·obtain⟨g8,rfl⟩:=H2.out.r2.form (by omega)
       obtain⟨g9,rfl⟩:=H2.out.r3.form (by omega)
       have a0:=(H2.out.r2.at (by simp) j (by simpa using cj)).1
       have b0:=(H2.out.r3.at (by simp) j (by simpa using cj)).1
       rw[rep_at] at a0 b0
       have a0':w2.cell? ⟨g8,j*5,none⟩=some (.int .i64 201):=a0
       have b0':w2.cell? ⟨g9,j*5,none⟩=some (.int .i64 202):=b0
       have x2:(j:Int)<(M:Int):=by omega
       have x0:(0:Int)<=(j:Int):=by omega
       have HC:=hid cj
       clear a0 b0 cj hj
       go_wp2
       go_roundw
       case rel=>exact⟨j+1,by go_num,HC.out,by first|rfl|trivial⟩
       case measure=>have:=HC.out;simp[intOf];omega
      ·have x2:¬ (j:Int)<(M:Int):=by omega
       have hS:Sx w w2:=⟨H2.out.bel,HTM.out.1.below H2.out.bel,HTM.out.2.below H2.out.bel⟩
       have cv:=tokens_c
       have hne:=fn_nil
       clear cj hj vj vj2 H2
       go_wp2_with (first|(go_at_call 10;(with_reducible refine(cv _ _).mono ?_);rintro e w8 ⟨rfl,hw8⟩;(have hw':=hw8.symm);subst hw';clear hw8;(replace hS:=hS.alloc (.cells #[.string s] 9)))|(go_at_call 11;refine(CG.out _ _ hS.tabs hS.marks).mono ?_;rintro e wn ⟨rfl,hb⟩;(replace hS:=hS.go hb);clear hb)|(go_at_call 12;refine(awake11_c _ hS.tabs hS.marks).mono ?_;rintro e wn ⟨rfl,hb⟩;(replace hS:=hS.go hb);clear hb))
       trace_state
       go_ret
       exact⟨rfl,hS.bel⟩
end Go.Proofs.YtknkedihmmbanaaDoor.W

import Derived.Test.YtknkedihmmbanaaDoorJP
import Derived.Test.YtknkedihmmbanaaDoorJI
import Derived.Maps.AppendAt
import Derived.Deep.RegionHeld3
import Derived.Test.YtknkedihmmbanaaDoorJG
import Derived.OrdersHeld
open List renaming getD_eq_getElem?_getD → z10z, getElem?_eq_getElem → z11z, setIfInBounds_toArray → z12z, set_cons_succ → z13z, set_cons_zero → z14z, take_succ_eq_append_getElem → z15z
open Array renaming getElem?_eq_some_iff → z7z
open Nat renaming le_trans → z0z, le_refl → z4z
open Go.World renaming size_alloc → z2z, putObj_heap_other → z5z, alloc_heap_new → z6z, alloc → z9z
open Go.RowKit.Below renaming heap_setCell → z1z, heap_alloc → z3z, refl → z8z
open Go.Proofs.Tryd
set_option maxRecDepth 1000000
set_option maxHeartbeats 8000000
namespace Go.Proofs.YtknkedihmmbanaaDoor.W.It
set_option linter.unusedVariables false
def pick:Nat->Nat->List Bool->List Oper->Option (Nat × Oper)
 | _,_,[],_=>none
 | _,_,_::_,[]=>none
 | s+1,i,_::l,_::o=>pick s (i+1) l o
 | 0,i,true::l,_::o=>pick 0 (i+1) l o
 | 0,i,false::_,o::_=>some (i,o)
theorem pick_at:∀ (s i:Nat) (l:List Bool) (o:List Oper) {j:Nat} {x:Oper},pick s i l o=some (j,x)->∃k,j=i+k/\o[k]? = some x
 | _,_,[],_,_,_,h=>by simp[pick] at h
 | _,_,_::_,[],_,_,h=>by simp[pick] at h
 | s+1,i,_::l,_::o,j,x,h=>by
  obtain⟨k,e,g⟩:=pick_at s (i+1) l o (by simpa [pick] using h)
  exact⟨k+1,by omega,by simpa using g⟩
 | 0,i,true::l,_::o,j,x,h=>by
  obtain⟨k,e,g⟩:=pick_at 0 (i+1) l o (by simpa [pick] using h)
  exact⟨k+1,by omega,by simpa using g⟩
 | 0,i,false::_,o::_,j,x,h=>by
  simp only[pick,Option.some.injEq,Prod.mk.injEq] at h
  exact⟨0,by omega,by simp[h.2]⟩
theorem pick_ops{s:Nat}{l:Array Bool}{ops:Array Oper}{i:Nat}{oi:Oper}(h:pick s 0 l.toList ops.toList=some (i,oi)):ops[i]? = some oi:=by
 obtain⟨k,e,g⟩:=pick_at _ _ _ _ h
 rw[Nat.zero_add] at e
 rw[e,<- Array.getElem?_toList]
 exact g
section
variable {n:Nat} {P:Program} {ops:Array Oper} {Q:Exit->Act->World->Prop} {md:Region.Mode} {S:World->Prop} {z:Nat}
theorem nH(s:Nat){i:Nat}{oi:Oper}(v:Value){k:Nat}{l:Array Bool}{a:Act}{w:World}(hi:pick s 0 l.toList ops.toList=some (i,oi))(hb:(Region.noSelect ops&&(Region.free md ops l i&&(Region.ready md ops l).contains i))=true)
  (hQ:∀c a w,Q (.panic c) (a.put oi.dst v) w->Q (.panic c) a w) (hy:YieldsIf P ops S oi v a) (hS:S w) (h:wpAnyH P md ops Q S k (l.setIfInBounds i true) (a.put oi.dst v) w):wpAnyH P md ops Q S (k+1) l a w:=by
 simp only[Bool.and_eq_true] at hb
 exact wpAnyH_take (pick_ops hi) hb.1 hb.2.1 hb.2.2 hQ hy hS h
end
end Go.Proofs.YtknkedihmmbanaaDoor.W.It
namespace Go.Proofs.YtknkedihmmbanaaDoor.W
open Go.ChangeShapes Go.WideShapes Go.RowKit Go.Shelf
set_option linter.unusedVariables false
def yy(y:Yd):Array Value:=yv y.t y.a y.c y.f
def toksY:Nat->List UInt8->Nat->List Yd
 | 0,_,_=>[]
 | f+1,l,a=>if l.length<=a then [⟨endTk,a,0,0⟩] else
  if (pieceP (l.drop a)).size=0 then [⟨noTk,0,60,a⟩] else
  if (pieceP (l.drop a)).code≠0 then [⟨noTk,0,(pieceP (l.drop a)).code,a⟩] else
  if (pieceP (l.drop a)).t.kind≠0 then ⟨(pieceP (l.drop a)).t,a,0,0⟩::toksY f l (a+(pieceP (l.drop a)).size) else toksY f l (a+(pieceP (l.drop a)).size)
def srcY(l:List UInt8):List Yd:=if 65536<l.length then [⟨noTk,0,2,0⟩] else toksY (l.length+1) l 0
theorem toks_map:∀ (f:Nat) (l:List UInt8) (a:Nat),toksP f l a=(toksY f l a).map yy
 | 0,_,_=>rfl
 | f+1,l,a=>by
  unfold toksP toksY
  split
  ·rfl
  ·split
   ·rfl
   ·split
    ·rfl
    ·split
     ·rw[List.map_cons,<- toks_map f l];rfl
     ·exact toks_map f l _
theorem vals_map(l:List UInt8):valsP l=(srcY l).map yy:=by
 unfold valsP srcY
 split
 ·rfl
 ·exact toks_map _ _ _
theorem toksY_len:∀ (f:Nat) (l:List UInt8) (a:Nat),(toksY f l a).length<=f
 | 0,_,_=>z4z _
 | f+1,l,a=>by
  unfold toksY
  split
  ·simp
  ·split
   ·simp
   ·split
    ·simp
    ·split
     ·have:=toksY_len f l (a+(pieceP (l.drop a)).size);simp;omega
     ·have:=toksY_len f l (a+(pieceP (l.drop a)).size);omega
theorem srcY_len(l:List UInt8):(srcY l).length<=l.length+1:=by
 unfold srcY
 split
 ·simp
 ·exact toksY_len _ _ _
theorem rowsY_snoc(L:List Yd)(i:Nat)(h:i<L.length):rowsY (L.take (i+1))=rowsY (L.take i)++(cellsA L[i]).toList:=by
 unfold rowsY
 rw[z15z h,List.flatMap_append]
 simp
theorem gi_append{P:Program}{F:Fence}{n:Nat}{L:Option Nat}(w:World){o:Oper}{a:Act}{K:Act->World->Prop}{Q:Exit->Act->World->Prop}(s x:Operand)(t tn:TypeId)
  (ho:o.op=.call { callee:=.builtin .append,args:=#[s,x],argTypes:=#[t,tn] }) (vs vx:Value) (hs:a.eval s=vs) (hx:a.eval x=vx)
  (v':Value) (w':World) (hr:(Builtin.append_ #[t,tn] o.type #[vs,vx]).run P w=.ok v' w') (h:K (a.put o.dst v') w'):o.uponIn F n P a K Q ((Oper.semAt L a.eval o).run P w):=by
 rw[Oper.semAt_eq _ _ _ (λc e=>by rw[ho] at e;cases e)]
 unfold execOp
 simp only[ho,resolve,invoke,builtin,Sem.run_bind,Sem.run_pure,Result.andThen_ok,List.map_toArray,List.map_cons,List.map_nil,hs,hx,hr]
 exact h
theorem eg_toks:∀args w,(callFunc 17 args).run prog w=.ok (.enter 17 args) w:=enters_of func17 (by kernel_rfl) rfl
theorem infoTk:(prog.info? 30).map (λi=>(i.zero,i.size,i.bytes))=some (some (.agg #[.int .i64 0,.int .i64 0,.string ⟨#[]⟩,.int .i64 0,.int .u64 0]),5,48):=by kernel_rfl
theorem append_tok(W:World)(ty:TypeId)(v:Value)(n:Nat)(xs:List Value){B0:Nat}(hown:W.ownsRow B0 30 5 v n xs)(hB:B0<=W.heap.size)(y:Yd)(hn:n<=2000000):∃v' w',(Builtin.append_ #[22,22] ty #[v,.slice (some ⟨W.heap.size,0,none⟩) 1 1]).run prog (W.alloc (.cells (cellsA y) 30))=.ok v' w'/\w'.ownsRow B0 30 5 v' (n+1) (xs++(cellsA y).toList)/\(W.alloc (.cells (cellsA y) 30)).grownBy w' v.ownBlock/\(v'=.slice none 0 0↔v=.slice none 0 0/\1=0)/\(v'.ownBlock=v.ownBlock\/v'.ownBlock=some (W.alloc (.cells (cellsA y) 30)).heap.size):=by
 obtain⟨i0,hi,hz0,hz1,hz2⟩:=info_parts infoTk
 have e0:=World.cell?_alloc_new W (cellsA y) 30
 have ho:=hown.alloc (.cells (cellsA y) 30)
 refine run_append_own_at (P:=prog) (W.alloc (.cells (cellsA y) 30)) B0 22 ty 30 i0 _ 5 48 rowT hi hz0 hz1 hz2 rfl (by omega) v n xs ho ⟨W.heap.size,0,none⟩ 1 1 (cellsA y).toList (by simp[cellsA]) ?_ ?_ (by unfold maxLen;omega) (by omega) (by simp;omega)
 ·intro j u hj
  have e1:((⟨W.heap.size,0,none⟩:Addr).add j)=⟨W.heap.size,j,none⟩:=by simp[Addr.add];intro e;exact e.symm
  rw[e1,e0 j]
  simpa using hj
 ·intro u hu
  simp[cellsA] at hu
  rcases hu with rfl|rfl|rfl|rfl|rfl <;> rfl
structure AllI (w:World) (s:ByteArray) (Ys:List Yd) (i:Nat) (D:Nat->Prop) (W:World):Prop where
 bel:Below w.heap.size w W
 sz:w.heap.size+4<=W.heap.size
 r2:W.heap[w.heap.size]? = some (.cells #[.slice none 0 0] 22 (0,0))
 r3:W.heap[w.heap.size+1]? = some (.cells #[.int .i64 0,.int .i64 0] 25 (0,0))
 src:W.heap[w.heap.size+3]? = some (.cells #[.string s] 9 (0,0))
 ok:∀y ∈ Ys.take i,y.c=0
 row:∃v,W.heap[w.heap.size+2]? = some (.cells #[v] 22 (0,0))/\W.ownsRow w.heap.size 30 5 v i (rowsY (Ys.take i))/\(∀k,v.ownBlock=some k->w.heap.size+6<=k)/\∀k,D k↔k=w.heap.size+2\/v.ownBlock=some k
structure AllX (w:World) (Ys:List Yd) (c:Code) (W:World):Prop where
 code:c=.ret
 bel:Below w.heap.size w W
 sz:w.heap.size+4<=W.heap.size
 r2:W.heap[w.heap.size]? = some (.cells #[.slice none 0 0] 22 (0,0))
 bad:∃y,Ys.find? (λy=>y.c != 0)=some y/\W.heap[w.heap.size+1]? = some (.cells #[.int .i64 y.c,.int .i64 y.f] 25 (0,0))
section
variable {w W W':World} {s:ByteArray} {Ys:List Yd} {i:Nat} {D:Nat->Prop}
theorem AllI.upd(q:AllI w s Ys i D W)(hu:It.Upd (λk=>k=w.heap.size+5) W W'):AllI w s Ys i D W':=by
 obtain⟨v,h1,h2,h3,h4⟩:=q.row
 have z:=q.sz
 have kp:∀k o,k<w.heap.size+4->W.heap[k]? = some o->W'.heap[k]? = some o:=λk o hk e=>(hu.block k (by omega) (by omega)).trans e
 refine⟨⟨hu.os.trans q.bel.os,hu.tape.trans q.bel.tape,hu.output.trans q.bel.output,z0z q.bel.size hu.size,λk hk=>(hu.block k (by omega) (by omega)).trans (q.bel.block k hk)⟩,z0z z hu.size,kp _ _ (by omega) q.r2,kp _ _ (by omega) q.r3,kp _ _ (by omega) q.src,q.ok,v,kp _ _ (by omega) h1,owns_onX h2 (λk e=>hu.block k (h2.lt k e).2 (by have:=h3 k e;omega)),h3,h4⟩
theorem AllX.upd{c:Code}(q:AllX w Ys c W)(hu:It.Upd (λk=>k=w.heap.size+5) W W'):AllX w Ys c W':=by
 have z:=q.sz
 have kp:∀k o,k<w.heap.size+4->W.heap[k]? = some o->W'.heap[k]? = some o:=λk o hk e=>(hu.block k (by omega) (by omega)).trans e
 obtain⟨y,h1,h2⟩:=q.bad
 exact⟨q.code,⟨hu.os.trans q.bel.os,hu.tape.trans q.bel.tape,hu.output.trans q.bel.output,z0z q.bel.size hu.size,λk hk=>(hu.block k (by omega) (by omega)).trans (q.bel.block k hk)⟩,z0z z hu.size,kp _ _ (by omega) q.r2,y,h1,kp _ _ (by omega) h2⟩
end
def allN(y:Yd)(W:World):World:=(W.alloc (.cells (cellsA y) 30)).alloc (.cells #[.int .i64 y.c,.int .i64 y.f] 25)
def allA(a:Act)(y:Yd)(W:World):Act:={ tmps:=(((a.tmps.setIfInBounds 9 (tv y.t y.a)).setIfInBounds 10 (.agg #[.int .i64 y.c,.int .i64 y.f])).setIfInBounds 5 (.pointer (some ⟨W.heap.size,0,none⟩))).setIfInBounds 6 (.pointer (some ⟨W.heap.size+1,0,none⟩)),defers:=[] }
structure AllB (w:World) (s:ByteArray) (Ys:List Yd) (i:Nat) (D:Nat->Prop) (y:Yd) (W Wb:World):Prop where
 q:AllI w s Ys i D Wb
 tok:Wb.heap[W.heap.size]? = some (.cells (cellsA y) 30 (0,0))
 flt:Wb.heap[W.heap.size+1]? = some (.cells #[.int .i64 y.c,.int .i64 y.f] 25 (0,0))
 big:w.heap.size+6<=W.heap.size
theorem allB_of{w W:World}{s:ByteArray}{Ys:List Yd}{i:Nat}{D:Nat->Prop}{y:Yd}(q:AllI w s Ys i D W)(h6:w.heap.size+6<=W.heap.size)(o:Obj):AllB w s Ys i D y W ((allN y W).putObj (w.heap.size+5) o):=by
 have hB:Below W.heap.size W (allN y W):=((z8z _ W).alloc (z4z _) _).alloc (by simp) _
 have q1:AllI w s Ys i D (allN y W):=q.upd (It.Upd.of_below hB)
 refine⟨q1.upd (It.upd_put (S:=λk=>k=w.heap.size+5) rfl o),?_,?_,h6⟩
 ·rw[z5z (by omega)]
  exact(z3z _ _ _ (by simp)).trans (z6z W _)
 ·rw[z5z (by omega)]
  have:=z6z (W.alloc (.cells (cellsA y) 30)) (.cells #[.int .i64 y.c,.int .i64 y.f] 25)
  rwa [z2z] at this
set_option linter.unusedSimpArgs false
def AllR(Ys:List Yd)(B:Nat)(e:Ending)(w':World):Prop:=
 (∃y,Ys.find? (λy=>y.c != 0)=some y/\e=.returned (.tuple #[.slice none 0 0,.agg #[.int .i64 y.c,.int .i64 y.f]])) \/
 ((∀y ∈ Ys,y.c=0)/\∃v,e=.returned (.tuple #[v,.agg #[.int .i64 0,.int .i64 0]])/\w'.ownsRow B 30 5 v Ys.length (rowsY Ys))
theorem find_at(Ys:List Yd)(i:Nat)(y:Yd)(hi:i<Ys.length)(hy:Ys.getD i ⟨noTk,0,0,0⟩=y)(ok:∀z ∈ Ys.take i,z.c=0)(hc:¬y.c=0):Ys.find? (λy=>y.c != 0)=some y:=by
 rw[z10z,z11z hi] at hy
 have hy':Ys[i]=y:=hy
 rw[<- List.take_append_drop i Ys,List.find?_append]
 have h1:(Ys.take i).find? (λy=>y.c != 0)=none:=by
  rw[List.find?_eq_none]
  intro z hz
  simp[ok z hz]
 rw[h1,List.drop_eq_getElem_cons hi,hy',List.find?_cons]
 have h2:(y.c != 0)=true:=by simp[hc]
 rw[h2]
 rfl
def noYd:Yd:=⟨noTk,0,0,0⟩
theorem zip_two(t:Array Value)(p q:Nat)(u v:Value):Array.foldl (λ(t:Array Value) (x:Tmp × Value)=>match x with|(p,v)=>t.setIfInBounds p v) t (#[p,q].zip #[u,v])=(t.setIfInBounds p u).setIfInBounds q v:=by simp
theorem all_start(w:World)(s:ByteArray)(Ys:List Yd):AllI w s Ys 0 (λk=>k=w.heap.size+2) ((((w.alloc (.cells #[.slice none 0 0] 22)).alloc (.cells #[.int .i64 0,.int .i64 0] 25)).alloc (.cells #[.slice none 0 0] 22)).alloc (.cells #[.string s] 9)):=by
 have n1:=z6z w (.cells #[.slice none 0 0] 22)
 have n2:=z6z (w.alloc (.cells #[.slice none 0 0] 22)) (.cells #[.int .i64 0,.int .i64 0] 25)
 have n3:=z6z ((w.alloc (.cells #[.slice none 0 0] 22)).alloc (.cells #[.int .i64 0,.int .i64 0] 25)) (.cells #[.slice none 0 0] 22)
 have n4:=z6z (((w.alloc (.cells #[.slice none 0 0] 22)).alloc (.cells #[.int .i64 0,.int .i64 0] 25)).alloc (.cells #[.slice none 0 0] 22)) (.cells #[.string s] 9)
 simp only[z2z] at n2 n3 n4
 refine⟨((((z8z _ w).alloc (z4z _) _).alloc (by simp) _).alloc (by simp only[z2z];omega) _).alloc (by simp only[z2z];omega) _,by simp,?_,?_,n4,by simp,.slice none 0 0,?_,?_,by simp[Value.ownBlock],by simp[Value.ownBlock]⟩
 ·exact(z3z _ _ _ (by simp only[z2z];omega)).trans ((z3z _ _ _ (by simp only[z2z];omega)).trans ((z3z _ _ _ (by simp)).trans n1))
 ·exact(z3z _ _ _ (by simp only[z2z];omega)).trans ((z3z _ _ _ (by simp)).trans n2)
 ·exact(z3z _ _ _ (by simp)).trans n3
 ·exact World.ownsRow_nil _ _ _ _
theorem all_core(s:ByteArray)(Ys:List Yd)(hlen:Ys.length<=1000001)(hit:∀sb,IterD 17 #[.pointer (some ⟨sb,0,none⟩)] (Ys.map yy) (λW=>W.cell? ⟨sb,0,none⟩=some (.string s)/\Tabs W/\MarksIn W))(w:World)(ht:Tabs w)(hm:MarksIn w) :
  Calls prog 9 #[.string s] w λe w'=>Below w.heap.size w w'/\AllR Ys w.heap.size e w':=by
 have cv:=tokens_c
 refine(callsIn_wide (n:=9)).1 ?_
 refine callsIn_of_wp_marks func9 rfl trivial ?_ rfl
 refine wpIn_wide.2 ?_
 simp only[ntmps9,List.size_toArray,List.length_cons,List.length_nil,Nat.reduceAdd,Nat.reduceSub,Array.replicate_succ,Array.replicate_zero,List.push_toArray,List.append_toArray,List.nil_append,List.cons_append]
 go_wp2_with (go_at_call 10;(with_reducible refine(cv _ _).mono ?_);rintro e w8 ⟨rfl,hw8⟩;(have hw':=hw8.symm);subst hw';clear hw8)
 have q0:AllI w s Ys 0 (λk=>k=w.heap.size+2) ((((w.alloc (.cells #[.slice none 0 0] 22)).alloc (.cells #[.int .i64 0,.int .i64 0] 25)).alloc (.cells #[.slice none 0 0] 22)).alloc (.cells #[.string s] 9)):=all_start w s Ys
 have z0:((((w.alloc (.cells #[.slice none 0 0] 22)).alloc (.cells #[.int .i64 0,.int .i64 0] 25)).alloc (.cells #[.slice none 0 0] 22)).alloc (.cells #[.string s] 9)).heap.size=w.heap.size+4:=by simp
 generalize z9z (z9z (z9z (z9z w _) _) _) _=W0 at *
 have hY:∀ (i:Nat) (hi:i<(Ys.map yy).length),(Ys.map yy)[i]=yy (Ys.getD i noYd):=λi hi=>by
  rw[List.getElem_map]
  congr 1
  rw[z10z,z11z (by simpa using hi)]
  rfl
 refine iterD_lawA (hit (w.heap.size+1+1+1)) eg_toks rfl (AllI w s Ys) (AllX w Ys) ?hL ?hI ?hIx (λk=>k=w.heap.size+2) q0 (λi W=>allA { tmps:=#[.string s,undef,.pointer (some ⟨w.heap.size,0,none⟩),.pointer (some ⟨w.heap.size+1,0,none⟩),.pointer (some ⟨w.heap.size+1+1,0,none⟩),undef,undef,.string s,.func (.func 17) #[] #[.pointer (some ⟨w.heap.size+1+1+1,0,none⟩)],undef,undef,undef,undef,undef,undef,undef,undef,undef,undef,undef,undef],defers:=[] } (Ys.getD i noYd) W) (λi W=>allN (Ys.getD i noYd) W) ?hN ?hsz ?assign ?body ?done ?stop
 case hL=>
  intro i D W q
  refine⟨⟨cell_of_row _ _ 0 _ _ _ q.src,ht.below q.bel,hm.below q.bel⟩,?_⟩
  obtain⟨v,h1,h2,h3,h4⟩:=q.row
  intro k hk
  rcases(h4 k).1 hk with rfl|e
  ·exact(z7z.1 h1).1
  ·exact(h2.lt k e).2
 case hI=>
  intro i D W W' q hu
  rw[z0] at hu
  exact q.upd hu
 case hIx=>
  intro c W W' q hu
  rw[z0] at hu
  exact q.upd hu
 case hN=>intro i W;exact((z8z _ W).alloc (z4z _) _).alloc (by simp) _
 case hsz=>intro i hi;rw[hY i hi];rfl
 case assign=>
  intro L i hi W K hK
  rw[hY i hi]
  generalize Ys.getD i noYd=y at *
  obtain⟨t,ya,yc,yf⟩:=y
  simp only[yy,yv,tv,zip_two,z12z,z13z,z14z]
  gi_wp2_with (simp only[Oper.semAt];go_simp)
  exact hK
 case body=>
  intro L i hi D W o hLe q hs
  rw[z0] at hLe hs
  subst hLe
  obtain⟨y,hy⟩:∃y,Ys.getD i noYd=y:=⟨_,rfl⟩
  rw[hy]
  have B:=allB_of (y:=y) q hs o
  rw[z0]
  generalize hWb:(allN y W).putObj (w.heap.size+4+1) o=Wb at *
  clear q
  obtain⟨v,h1,h2,h3,h4⟩:=B.q.row
  obtain⟨o9,c9,rfl⟩:=slice_ofX h2
  have c5:=row_cellsX B.tok
  have c6:=row_cellsX B.flt
  have d0:Wb.cell? ⟨W.heap.size+1,0,none⟩=some (.int .i64 y.c):=c6 0
  have d1:Wb.cell? ⟨W.heap.size+1,1,none⟩=some (.int .i64 y.f):=c6 1
  have b4:Wb.cell? ⟨w.heap.size+1+1,0,none⟩=some (.slice o9 i c9):=cell_of_row _ _ 0 _ _ _ h1
  have BB:=hid B
  have H2:=hid h2
  have H3:=hid h3
  have H4:=hid h4
  simp only[allA,z12z,z13z,z14z]
  by_cases hc:y.c=0
  ·have hil:i<Ys.length:=by simpa using hi
   have hy':Ys[i]=y:=by
    rw[z10z,z11z hil] at hy
    exact hy
   have hbz:w.heap.size+6<=Wb.heap.size:=by have:=B.big;have:=(z7z.1 B.tok).1;omega
   obtain⟨v',w1,hrun,ho',hg,hnil,hk⟩:=append_tok Wb 22 (.slice o9 i c9) i _ h2 (by omega) y (by omega)
   have hU1:It.Upd (λk=>(Value.slice o9 i c9).ownBlock=some k) (Wb.alloc (.cells (cellsA y) 30)) w1:=(It.Upd.refl _ _).grown hg (λk e=>.inl e)
   have hU:It.Upd (λk=>(Value.slice o9 i c9).ownBlock=some k) Wb w1:=(It.Upd.of_below ((z8z _ Wb).alloc (z4z _) _)).trans' hU1
   obtain⟨o8,c8,rfl⟩:=slice_ofX ho'
   have q4:w1.heap[w.heap.size+1+1]? = some (.cells #[.slice o9 i c9] 22 (0,0)):=(hU.block _ (by omega) (λe=>by have:=h3 _ e;omega)).trans h1
   have cw:w1.cell? ⟨w.heap.size+1+1,0,none⟩=some (.slice o9 i c9):=row_cellsX q4 0
   have fw:w1.frozen? ⟨w.heap.size+1+1,0,none⟩=false:=row_thawX q4 0
   have t0:Wb.cell? ⟨W.heap.size,0,none⟩=some (.int .i64 y.t.kind):=c5 0
   have t1:Wb.cell? ⟨W.heap.size,1,none⟩=some (.int .i64 y.a):=c5 1
   have t2:Wb.cell? ⟨W.heap.size,2,none⟩=some (.string y.t.text):=c5 2
   have t3:Wb.cell? ⟨W.heap.size,3,none⟩=some (.int .i64 y.t.int):=c5 3
   have t4:Wb.cell? ⟨W.heap.size,4,none⟩=some (.int .u64 y.t.bits):=c5 4
   rw[hc] at d0
   have HU:=hid hU
   have HO:=hid ho'
   have HK:=hid hk
   have Q4:=hid q4
   unfold cellsA at hrun
   clear h1 h2 h3 h4 c5 c6 B hit q0 hlen hY hm ht cv hU hU1 hg hnil ho' hk q4
   gi_wp2_with (first|(with_reducible refine gi_append _ (.tmp 15) (.tmp 17) 22 22 rfl _ _ (by simp[Act.eval]) (by simp[Act.eval]) _ _ hrun ?_)|(simp only[Oper.semAt];go_simp))
   have hne:∀k,(Value.slice o9 i c9).ownBlock=some k->w.heap.size+6<=k:=H3.out
   have hloc:∀k,(Value.slice o8 (i+1) c8).ownBlock=some k->w.heap.size+6<=k:=by
    intro k e
    rcases HK.out with e2|e2
    ·rw[e2] at e;exact hne k e
    ·rw[e2] at e
     simp only[z2z,Option.some.injEq] at e
     omega
   have hU2:It.Upd (λk=>(Value.slice o9 i c9).ownBlock=some k\/k=w.heap.size+1+1) Wb (w1.setCell ⟨w.heap.size+1+1,0,none⟩ (.slice o8 (i+1) c8)):=
    (It.Upd.setCell (S:=λk=>(Value.slice o9 i c9).ownBlock=some k\/k=w.heap.size+1+1) ⟨HU.out.os,HU.out.tape,HU.out.output,HU.out.size,λk hk2 hn=>HU.out.block k hk2 (λe=>hn (.inl e))⟩ (p:=⟨w.heap.size+1+1,0,none⟩) (.inl (.inr rfl)) _)
   have bx2:(w1.setCell ⟨w.heap.size+1+1,0,none⟩ (.slice o8 (i+1) c8)).heap[w.heap.size+1+1]? = some (.cells #[.slice o8 (i+1) c8] 22 (0,0)):=heap_setX (c:=[.slice o9 i c9]) Q4.out 0 (.slice o8 (i+1) c8)
   have kp:∀k,k<Wb.heap.size->k≠w.heap.size+2->k<w.heap.size+6->(w1.setCell ⟨w.heap.size+1+1,0,none⟩ (.slice o8 (i+1) c8)).heap[k]? = Wb.heap[k]?:=λk h1 h2 h3=>hU2.block k h1 (by
    rintro(e|e)
    ·have:=hne k e;omega
    ·omega)
   refine⟨⟨kp _ (by omega) (by omega) (by omega),kp _ (by omega) (by omega) (by omega)⟩,λk h1 h2=>hU2.block k h1 (λe=>h2 ((H4.out k).2 (e.elim (λe=>.inr e) (λe=>.inl e)))),(λk=>k=w.heap.size+2\/(Value.slice o8 (i+1) c8).ownBlock=some k),?_⟩
   refine⟨⟨hU2.os.trans BB.out.q.bel.os,hU2.tape.trans BB.out.q.bel.tape,hU2.output.trans BB.out.q.bel.output,z0z BB.out.q.bel.size hU2.size,λk hk=>(kp k (by omega) (by omega) (by omega)).trans (BB.out.q.bel.block k hk)⟩,z0z BB.out.q.sz hU2.size,(kp _ (by omega) (by omega) (by omega)).trans BB.out.q.r2,(kp _ (by omega) (by omega) (by omega)).trans BB.out.q.r3,(kp _ (by omega) (by omega) (by omega)).trans BB.out.q.src,?_,_,bx2,?_,hloc,λk=>Iff.rfl⟩
   ·intro z hz
    rw[z15z hil,List.mem_append] at hz
    rcases hz with hz|hz
    ·exact BB.out.q.ok z hz
    ·simp at hz
     rw[hz,hy',hc]
   ·rw[rowsY_snoc Ys i hil,hy']
    exact owns_onX HO.out (λk e=>z1z _ _ _ _ (by have:=hloc k e;show k≠w.heap.size+1+1;omega))
  ·have e2:=row_cellsX B.q.r2
   have e3:=row_cellsX B.q.r3
   have g2:=row_thawX B.q.r2
   have g3:=row_thawX B.q.r3
   clear h1 h2 h3 h4 c5 c6 B hit q0 hlen hY hm ht cv
   have k2:Wb.cell? ⟨w.heap.size,0,none⟩=some (.slice none 0 0):=e2 0
   have k3:Wb.cell? ⟨w.heap.size+1,0,none⟩=some (.int .i64 0):=e3 0
   have k4:Wb.cell? ⟨w.heap.size+1,1,none⟩=some (.int .i64 0):=e3 1
   have n1:¬W.heap.size+1=w.heap.size:=by omega
   have n2:¬W.heap.size=w.heap.size:=by omega
   clear e2 e3
   gi_wp2_with (simp only[Oper.semAt];go_simp)
   have hS:Wb.drew.cell? ⟨W.heap.size+1,0,none⟩=some (.int .i64 y.c)/\Wb.drew.cell? ⟨W.heap.size+1,1,none⟩=some (.int .i64 y.f):=⟨d0,d1⟩
   refine It.round_held (S:=λw'=>w'.cell? ⟨W.heap.size+1,0,none⟩=some (.int .i64 y.c)/\w'.cell? ⟨W.heap.size+1,1,none⟩=some (.int .i64 y.f)) (by kernel_rfl) (by kernel_rfl) (by rintro⟨a,w,hF⟩;exact hF) ?_
   (refine It.nH 0 ?_ rfl (by kernel_rfl) (λ_ _ _ h=>h) (Or.inl ⟨by rfl,?_⟩) hS ?_);rotate_left;(focus (intro w' hSw;obtain⟨q1,q2⟩:=hSw;go_simp;(try with_reducible rfl)));(try simp only[Act.put,z12z,z14z,z13z])
   refine wpAnyH_ready (rs:=[1]) (by kernel_rfl) (by simp) ?_
   refine AllReadyH.cons rfl (λK hK=>?_) AllReadyH.nil
   go_simp
   have u1:It.Upd (λk=>k=w.heap.size\/k=w.heap.size+1) Wb (Wb.setCell ⟨w.heap.size,0,none⟩ (.slice none 0 0)).drew:=((It.Upd.refl _ Wb).setCell (p:=⟨w.heap.size,0,none⟩) (.inl (.inl rfl)) _).drew
   have a2:(Wb.setCell ⟨w.heap.size,0,none⟩ (.slice none 0 0)).drew.heap[w.heap.size]? = some (.cells #[.slice none 0 0] 22 (0,0)):=heap_setX (c:=[.slice none 0 0]) BB.out.q.r2 0 (.slice none 0 0)
   have a3:(Wb.setCell ⟨w.heap.size,0,none⟩ (.slice none 0 0)).drew.heap[w.heap.size+1]? = some (.cells #[.int .i64 0,.int .i64 0] 25 (0,0)):=(z1z _ _ _ _ (by show w.heap.size+1≠w.heap.size;omega)).trans BB.out.q.r3
   have a6:(Wb.setCell ⟨w.heap.size,0,none⟩ (.slice none 0 0)).drew.heap[W.heap.size+1]? = some (.cells #[.int .i64 y.c,.int .i64 y.f] 25 (0,0)):=(z1z _ _ _ _ (by show W.heap.size+1≠w.heap.size;omega)).trans BB.out.flt
   generalize (Wb.setCell ⟨w.heap.size,0,none⟩ (.slice none 0 0)).drew=Wc at *
   refine hK.out _ _ ⟨row_cellsX a6 0,row_cellsX a6 1⟩ (λhS2=>?_)
   clear hK K hS
   have U1:=hid u1
   have A2:=hid a2
   have A3:=hid a3
   have A6:=hid a6
   have k3:Wc.cell? ⟨w.heap.size+1,0,none⟩=some (.int .i64 0):=row_cellsX a3 0
   have k4:Wc.cell? ⟨w.heap.size+1,1,none⟩=some (.int .i64 0):=row_cellsX a3 1
   have g4:=row_thawX a3
   clear u1 a2 a3 a6 g2 g3 k2
   refine wpAnyH_ready (rs:=[2]) (by kernel_rfl) (by simp) ?_
   refine AllReadyH.cons rfl (λK hK=>?_) AllReadyH.nil
   go_simp
   have u2:It.Upd (λk=>k=w.heap.size\/k=w.heap.size+1) Wc ((Wc.setCell ⟨w.heap.size+1,0,none⟩ (.int .i64 y.c)).setCell ⟨w.heap.size+1,1,none⟩ (.int .i64 y.f)):=((It.Upd.refl _ Wc).setCell (p:=⟨w.heap.size+1,0,none⟩) (.inl (.inr rfl)) _).setCell (p:=⟨w.heap.size+1,1,none⟩) (.inl (.inr rfl)) _
   have b3:((Wc.setCell ⟨w.heap.size+1,0,none⟩ (.int .i64 y.c)).setCell ⟨w.heap.size+1,1,none⟩ (.int .i64 y.f)).heap[w.heap.size+1]? = some (.cells #[.int .i64 y.c,.int .i64 y.f] 25 (0,0)):=heap_setX (c:=[.int .i64 y.c,.int .i64 0]) (heap_setX (c:=[.int .i64 0,.int .i64 0]) A3.out 0 (.int .i64 y.c)) 1 (.int .i64 y.f)
   have b2:((Wc.setCell ⟨w.heap.size+1,0,none⟩ (.int .i64 y.c)).setCell ⟨w.heap.size+1,1,none⟩ (.int .i64 y.f)).heap[w.heap.size]? = some (.cells #[.slice none 0 0] 22 (0,0)):=((z1z _ _ _ _ (by show w.heap.size≠w.heap.size+1;omega)).trans (z1z _ _ _ _ (by show w.heap.size≠w.heap.size+1;omega))).trans A2.out
   have b6:((Wc.setCell ⟨w.heap.size+1,0,none⟩ (.int .i64 y.c)).setCell ⟨w.heap.size+1,1,none⟩ (.int .i64 y.f)).heap[W.heap.size+1]? = some (.cells #[.int .i64 y.c,.int .i64 y.f] 25 (0,0)):=((z1z _ _ _ _ (by show W.heap.size+1≠w.heap.size+1;omega)).trans (z1z _ _ _ _ (by show W.heap.size+1≠w.heap.size+1;omega))).trans A6.out
   generalize (Wc.setCell ⟨w.heap.size+1,0,none⟩ (.int .i64 y.c)).setCell ⟨w.heap.size+1,1,none⟩ (.int .i64 y.f)=Wd at *
   refine hK.out _ _ ⟨row_cellsX b6 0,row_cellsX b6 1⟩ (λhS3=>?_)
   clear hK K
   refine wpAnyH_done (by kernel_rfl) ?_ _
   have u3:=U1.out.trans' u2
   have X:AllX w Ys .ret Wd:=by
    refine⟨rfl,⟨u3.os.trans BB.out.q.bel.os,u3.tape.trans BB.out.q.bel.tape,u3.output.trans BB.out.q.bel.output,z0z BB.out.q.bel.size u3.size,λk hk=>(u3.block k (by have:=BB.out.q.sz;omega) (by omega)).trans (BB.out.q.bel.block k hk)⟩,z0z BB.out.q.sz u3.size,b2,y,?_,b3⟩
    exact find_at Ys i y (by simpa using hi) hy BB.out.q.ok hc
   have p1:Wd.heap[w.heap.size+4+1]? = Wb.heap[w.heap.size+4+1]?:=u3.block _ (by have:=BB.out.big;have:=BB.out.q.sz;have:=(z7z.1 BB.out.tok).1;omega) (by omega)
   have p2:Wd.heap[w.heap.size+4]? = Wb.heap[w.heap.size+4]?:=u3.block _ (by have:=BB.out.big;have:=BB.out.q.sz;have:=(z7z.1 BB.out.tok).1;omega) (by omega)
   have XX:=hid X
   clear X
   gi_wp2
   exact⟨⟨p1,p2⟩,XX.out⟩
 case done=>
  intro D W q hD
  rw[List.length_map] at q
  obtain⟨v,h1,h2,h3,h4⟩:=q.row
  obtain⟨o9,c9,rfl⟩:=slice_ofX h2
  have b4:W.cell? ⟨w.heap.size+1+1,0,none⟩=some (.slice o9 Ys.length c9):=cell_of_row _ _ 0 _ _ _ h1
  have k2:W.cell? ⟨w.heap.size,0,none⟩=some (.slice none 0 0):=row_cellsX q.r2 0
  have k3:W.cell? ⟨w.heap.size+1,0,none⟩=some (.int .i64 0):=row_cellsX q.r3 0
  have k4:W.cell? ⟨w.heap.size+1,1,none⟩=some (.int .i64 0):=row_cellsX q.r3 1
  have g2:=row_thawX q.r2
  have g3:=row_thawX q.r3
  have QQ:=hid q
  have H2:=hid h2
  have H3:=hid h3
  have HD:=hid hD
  have hok:∀y ∈ Ys,y.c=0:=by have:=q.ok;rwa [List.take_of_length_le (z4z _)] at this
  have OK:=hid hok
  rw[z0]
  rw[z0] at HD
  clear q h1 h2 h3 h4 hit q0 hY hm ht cv hD hok hlen
  generalize hnn:Ys.length=nn at *
  go_wp2
  have u2:It.Upd (λk=>k=w.heap.size\/k=w.heap.size+1) W (((W.setCell ⟨w.heap.size,0,none⟩ (.slice o9 nn c9)).setCell ⟨w.heap.size+1,0,none⟩ (.int .i64 0)).setCell ⟨w.heap.size+1,1,none⟩ (.int .i64 0)):=(((It.Upd.refl _ W).setCell (p:=⟨w.heap.size,0,none⟩) (.inl (.inl rfl)) _).setCell (p:=⟨w.heap.size+1,0,none⟩) (.inl (.inr rfl)) _).setCell (p:=⟨w.heap.size+1,1,none⟩) (.inl (.inr rfl)) _
  have a3:(W.setCell ⟨w.heap.size,0,none⟩ (.slice o9 nn c9)).heap[w.heap.size+1]? = some (.cells #[.int .i64 0,.int .i64 0] 25 (0,0)):=(z1z _ _ _ _ (by show w.heap.size+1≠w.heap.size;omega)).trans QQ.out.r3
  have b3:(((W.setCell ⟨w.heap.size,0,none⟩ (.slice o9 nn c9)).setCell ⟨w.heap.size+1,0,none⟩ (.int .i64 0)).setCell ⟨w.heap.size+1,1,none⟩ (.int .i64 0)).heap[w.heap.size+1]? = some (.cells #[.int .i64 0,.int .i64 0] 25 (0,0)):=heap_setX (c:=[.int .i64 0,.int .i64 0]) (heap_setX (c:=[.int .i64 0,.int .i64 0]) a3 0 (.int .i64 0)) 1 (.int .i64 0)
  have b2:(((W.setCell ⟨w.heap.size,0,none⟩ (.slice o9 nn c9)).setCell ⟨w.heap.size+1,0,none⟩ (.int .i64 0)).setCell ⟨w.heap.size+1,1,none⟩ (.int .i64 0)).heap[w.heap.size]? = some (.cells #[.slice o9 nn c9] 22 (0,0)):=((z1z _ _ _ _ (by show w.heap.size≠w.heap.size+1;omega)).trans (z1z _ _ _ _ (by show w.heap.size≠w.heap.size+1;omega))).trans (heap_setX (c:=[.slice none 0 0]) QQ.out.r2 0 (.slice o9 nn c9))
  generalize ((W.setCell ⟨w.heap.size,0,none⟩ (.slice o9 nn c9)).setCell ⟨w.heap.size+1,0,none⟩ (.int .i64 0)).setCell ⟨w.heap.size+1,1,none⟩ (.int .i64 0)=Wd at *
  have hD2:Wd.heap[w.heap.size+4]? = some (.deferred (some [])):=(u2.block _ (z7z.1 HD.out).1 (by omega)).trans HD.out
  refine⟨by simp,.inl ⟨_,_,rfl,run_takeDeferred hD2,?_⟩⟩
  have u3:It.Upd (λk=>k=w.heap.size\/k=w.heap.size+1\/k=w.heap.size+4) W (Wd.putObj (w.heap.size+4) (.deferred none)):=(u2.mono (λk e=>e.elim .inl (λe=>.inr (.inl e)))).trans' (It.upd_put (S:=λk=>k=w.heap.size\/k=w.heap.size+1\/k=w.heap.size+4) (.inr (.inr rfl)) _)
  refine⟨_,all_ret rfl _ _ w.heap.size (w.heap.size+1) _ _ _ (0,0) (0,0) _ rfl rfl ((z5z (by omega)).trans b2) ((z5z (by omega)).trans b3),?_,.inr ⟨OK.out,_,rfl,?_⟩⟩
  ·exact⟨u3.os.trans QQ.out.bel.os,u3.tape.trans QQ.out.bel.tape,u3.output.trans QQ.out.bel.output,z0z QQ.out.bel.size u3.size,λk hk=>(u3.block k (by have:=QQ.out.sz;omega) (by omega)).trans (QQ.out.bel.block k hk)⟩
  ·have h2:=H2.out
   rw[List.take_of_length_le (by omega)] at h2
   rw[hnn]
   exact owns_onX h2 (λk e=>u3.block k (h2.lt k e).2 (by have:=H3.out k e;omega))
 case stop=>
  intro c W q hD
  obtain rfl:=q.code
  obtain⟨y,h1,h2⟩:=q.bad
  rw[z0]
  rw[z0] at hD
  have QQ:=hid q
  clear hit q0 hY hm ht cv hlen q
  go_wp2
  refine⟨by simp,.inl ⟨_,_,rfl,run_takeDeferred hD,?_⟩⟩
  have u3:It.Upd (λk=>k=w.heap.size+4) W (W.putObj (w.heap.size+4) (.deferred none)):=It.upd_put (S:=λk=>k=w.heap.size+4) rfl _
  refine⟨_,all_ret rfl _ _ w.heap.size (w.heap.size+1) _ _ _ (0,0) (0,0) _ rfl rfl ((z5z (by omega)).trans QQ.out.r2) ((z5z (by omega)).trans h2),?_,.inl ⟨y,h1,rfl⟩⟩
  exact⟨u3.os.trans QQ.out.bel.os,u3.tape.trans QQ.out.bel.tape,u3.output.trans QQ.out.bel.output,z0z QQ.out.bel.size u3.size,λk hk=>(u3.block k (by have:=QQ.out.sz;omega) (by omega)).trans (QQ.out.bel.block k hk)⟩
theorem all_c(s:ByteArray)(hs:s.size<=1000000)(w:World)(ht:Tabs w)(hm:MarksIn w) :
  Calls prog 9 #[.string s] w λe w'=>Below w.heap.size w w'/\AllR (srcY s.data.toList) w.heap.size e w':=by
 refine all_core s (srcY s.data.toList) ?_ (λsb=>?_) w ht hm
 ·have:=srcY_len s.data.toList
  rw[size_list] at this
  omega
 ·rw[<- vals_map]
  exact toks_iter s hs sb
end Go.Proofs.YtknkedihmmbanaaDoor.W

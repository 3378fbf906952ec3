import Derived.Test.YtgchnkgolclmgaaGreatDoorJC
import Derived.Test.YtgchnkgolclmgaaGreatDoorJP
import Derived.Test.YtgchnkgolclmgaaGreatDoorJI
import Derived.Maps.AppendAt
import Derived.Deep.RegionHeld3
import Derived.Test.YtgchnkgolclmgaaGreatDoorJG
import Derived.Sort.Grow
import Derived.Deep.QuietTactic
import Derived.BigQuiet
open List renaming getD_eq_getElem?_getD → dR, getElem?_eq_getElem → gL, setIfInBounds_toArray → gy, set_cons_succ → jl, set_cons_zero → lH, take_succ_eq_append_getElem → qV
open Array renaming getElem?_eq_some_iff → eU
open Nat renaming le_trans → aH, le_refl → ay
open Go.World renaming size_alloc → aY, putObj_heap_other → dI, alloc_heap_new → dQ, alloc → gI
open Go.RowKit.Below renaming heap_setCell → aL, refl → bO, heap_alloc → bY
open Go.Proofs.Tryz
set_option maxRecDepth 1000000
set_option maxHeartbeats 8000000
namespace Go.Proofs.YtgchnkgolclmgaaGreatDoor.W
set_option linter.unusedVariables false
theorem Ig{a b:Pc}(h:a.size=0):jK a b=b:=if_pos h
theorem yY{a b:Pc}(h:¬a.size=0):jK a b=a:=if_neg h
theorem M8(c:UInt8)(r:List UInt8)(h1:c≠35)(h2:iC c=false):(sK (c::r)).size=0:=by
 show xA (c::r)=0
 unfold xA
 rw[if_neg (by intro h;injection h with h;exact h1 h),gM h2]
open Go.ChangeShapes Go.WideShapes Go.RowKit Go.Shelf
def yy(y:Yd):Array Value:=yv y.t y.a y.c y.f
def rG:Nat->List UInt8->Nat->List Yd
 | 0,_,_=>[]
 | f+1,l,a=>if l.length<=a then [⟨qO,a,0,0⟩] else
  if (bF (l.drop a)).size=0 then [⟨gX,0,60,a⟩] else
  if (bF (l.drop a)).code≠0 then [⟨gX,0,(bF (l.drop a)).code,a⟩] else
  if (bF (l.drop a)).t.kind≠0 then ⟨(bF (l.drop a)).t,a,0,0⟩::rG f l (a+(bF (l.drop a)).size) else rG f l (a+(bF (l.drop a)).size)
def gU(l:List UInt8):List Yd:=if 65536<l.length then [⟨gX,0,2,0⟩] else rG (l.length+1) l 0
theorem vV:∀ (f:Nat) (l:List UInt8) (a:Nat),jM f l a=(rG f l a).map yy
 | 0,_,_=>rfl
 | f+1,l,a=>by
  unfold jM rG
  split
  ·rfl
  ·split
   ·rfl
   ·split
    ·rfl
    ·split
     ·rw[List.map_cons,<- vV f l];rfl
     ·exact vV f l _
theorem BZ(l:List UInt8):oJ l=(gU l).map yy:=by
 unfold oJ gU
 split
 ·rfl
 ·exact vV _ _ _
theorem tL:∀ (f:Nat) (l:List UInt8) (a:Nat),(rG f l a).length<=f
 | 0,_,_=>ay _
 | f+1,l,a=>by
  unfold rG
  split
  ·simp
  ·split
   ·simp
   ·split
    ·simp
    ·split
     ·have:=tL f l (a+(bF (l.drop a)).size);simp;omega
     ·have:=tL f l (a+(bF (l.drop a)).size);omega
theorem rH(l:List UInt8):(gU l).length<=l.length+1:=by
 unfold gU
 split
 ·simp
 ·exact tL _ _ _
theorem vk(L:List Yd)(i:Nat)(h:i<L.length):mY (L.take (i+1))=mY (L.take i)++(dA L[i]).toList:=by
 unfold mY
 rw[qV h,List.flatMap_append]
 simp
theorem tu{P:Program}{F:Fence}{n:Nat}{L:Option Nat}(w:World){o:Oper}{a:Act}{K:Act->World->Prop}{Q:Exit->Act->World->Prop}(s x:Operand)(t tn:TypeId)
  (ho:o.op=.call { callee:=.builtin .append,args:=#[s,x],argTypes:=#[t,tn] }) (vs vx:Value) (hs:a.eval s=vs) (hx:a.eval x=vx)
  (v':Value) (w':World) (hr:(Builtin.append_ #[t,tn] o.type #[vs,vx]).run P w=.ok v' w') (h:K (a.put o.dst v') w'):o.uponIn F n P a K Q ((Oper.semAt L a.eval o).run P w):=by
 rw[Oper.semAt_eq _ _ _ (λc e=>by rw[ho] at e;cases e)]
 unfold execOp
 simp only[ho,resolve,invoke,builtin,Sem.run_bind,Sem.run_pure,Result.andThen_ok,List.map_toArray,List.map_cons,List.map_nil,hs,hx,hr]
 exact h
theorem Gd:∀args w,(callFunc 44 args).run prog w=.ok (.enter 44 args) w:=enters_of func44 (by kernel_rfl) rfl
theorem Sl:(prog.info? 36).map (λi=>(i.zero,i.size,i.bytes))=some (some (.agg #[.int .i64 0,.int .i64 0,.string ⟨#[]⟩,.int .i64 0,.int .u64 0]),5,48):=by kernel_rfl
theorem xR(W:World)(ty:TypeId)(v:Value)(n:Nat)(xs:List Value){B0:Nat}(hown:W.ownsRow B0 36 5 v n xs)(hB:B0<=W.heap.size)(y:Yd)(hn:n<=2000000):∃v' w',(Builtin.append_ #[51,51] ty #[v,.slice (some ⟨W.heap.size,0,none⟩) 1 1]).run prog (W.alloc (.cells (dA y) 36))=.ok v' w'/\w'.ownsRow B0 36 5 v' (n+1) (xs++(dA y).toList)/\(W.alloc (.cells (dA y) 36)).grownBy w' v.ownBlock/\(v'=.slice none 0 0↔v=.slice none 0 0/\1=0)/\(v'.ownBlock=v.ownBlock\/v'.ownBlock=some (W.alloc (.cells (dA y) 36)).heap.size):=by
 obtain⟨i0,hi,hz0,hz1,hz2⟩:=info_parts Sl
 have e0:=World.cell?_alloc_new W (dA y) 36
 have ho:=hown.alloc (.cells (dA y) 36)
 refine run_append_own_at (P:=prog) (W.alloc (.cells (dA y) 36)) B0 51 ty 36 i0 _ 5 48 Uv hi hz0 hz1 hz2 rfl (by omega) v n xs ho ⟨W.heap.size,0,none⟩ 1 1 (dA y).toList (by simp[dA]) ?_ ?_ (by unfold maxLen;omega) (by omega) (by simp;omega)
 ·intro j u hj
  have e1:((⟨W.heap.size,0,none⟩:Addr).add j)=⟨W.heap.size,j,none⟩:=by simp[Addr.add];intro e;exact e.symm
  rw[e1,e0 j]
  simpa using hj
 ·intro u hu
  simp[dA] at hu
  rcases hu with rfl|rfl|rfl|rfl|rfl <;> rfl
section
variable {f a:Nat} {l:List UInt8} {p:Pc}
end
structure BI (w:World) (s:ByteArray) (Ys:List Yd) (i:Nat) (D:Nat->Prop) (W:World):Prop where
 bf:Below w.heap.size w W
 sz:w.heap.size+4<=W.heap.size
 r2:W.heap[w.heap.size]? = some (.cells #[.slice none 0 0] 51 (0,0))
 r3:W.heap[w.heap.size+1]? = some (.cells #[.int .i64 0,.int .i64 0] 25 (0,0))
 src:W.heap[w.heap.size+3]? = some (.cells #[.string s] 9 (0,0))
 ok:∀y ∈ Ys.take i,y.c=0
 row:∃v,W.heap[w.heap.size+2]? = some (.cells #[v] 51 (0,0))/\W.ownsRow w.heap.size 36 5 v i (mY (Ys.take i))/\(∀k,v.ownBlock=some k->w.heap.size+6<=k)/\∀k,D k↔k=w.heap.size+2\/v.ownBlock=some k
structure Ni (w:World) (Ys:List Yd) (c:Code) (W:World):Prop where
 code:c=.ret
 bf:Below w.heap.size w W
 sz:w.heap.size+4<=W.heap.size
 r2:W.heap[w.heap.size]? = some (.cells #[.slice none 0 0] 51 (0,0))
 bad:∃y,Ys.find? (λy=>y.c != 0)=some y/\W.heap[w.heap.size+1]? = some (.cells #[.int .i64 y.c,.int .i64 y.f] 25 (0,0))
section
variable {w W W':World} {s:ByteArray} {Ys:List Yd} {i:Nat} {D:Nat->Prop}
theorem BI.upd(q:BI w s Ys i D W)(hu:It.bL (λk=>k=w.heap.size+5) W W'):BI w s Ys i D W':=by
 obtain⟨v,h1,h2,h3,h4⟩:=q.row
 have z:=q.sz
 have kp:∀k o,k<w.heap.size+4->W.heap[k]? = some o->W'.heap[k]? = some o:=λk o hk e=>(hu.block k (by omega) (by omega)).trans e
 refine⟨⟨hu.os.trans q.bf.os,hu.tape.trans q.bf.tape,hu.output.trans q.bf.output,aH q.bf.size hu.size,λk hk=>(hu.block k (by omega) (by omega)).trans (q.bf.block k hk)⟩,aH z hu.size,kp _ _ (by omega) q.r2,kp _ _ (by omega) q.r3,kp _ _ (by omega) q.src,q.ok,v,kp _ _ (by omega) h1,bD h2 (λk e=>hu.block k (h2.lt k e).2 (by have:=h3 k e;omega)),h3,h4⟩
theorem Ni.upd{c:Code}(q:Ni w Ys c W)(hu:It.bL (λk=>k=w.heap.size+5) W W'):Ni w Ys c W':=by
 have z:=q.sz
 have kp:∀k o,k<w.heap.size+4->W.heap[k]? = some o->W'.heap[k]? = some o:=λk o hk e=>(hu.block k (by omega) (by omega)).trans e
 obtain⟨y,h1,h2⟩:=q.bad
 exact⟨q.code,⟨hu.os.trans q.bf.os,hu.tape.trans q.bf.tape,hu.output.trans q.bf.output,aH q.bf.size hu.size,λk hk=>(hu.block k (by omega) (by omega)).trans (q.bf.block k hk)⟩,aH z hu.size,kp _ _ (by omega) q.r2,y,h1,kp _ _ (by omega) h2⟩
end
def yG(y:Yd)(W:World):World:=(W.alloc (.cells (dA y) 36)).alloc (.cells #[.int .i64 y.c,.int .i64 y.f] 25)
def allA(a:Act)(y:Yd)(W:World):Act:={ tmps:=(((a.tmps.setIfInBounds 9 (tv y.t y.a)).setIfInBounds 10 (.agg #[.int .i64 y.c,.int .i64 y.f])).setIfInBounds 5 (.pointer (some ⟨W.heap.size,0,none⟩))).setIfInBounds 6 (.pointer (some ⟨W.heap.size+1,0,none⟩)),defers:=[] }
structure aAd (w:World) (s:ByteArray) (Ys:List Yd) (i:Nat) (D:Nat->Prop) (y:Yd) (W Wb:World):Prop where
 q:BI w s Ys i D Wb
 tok:Wb.heap[W.heap.size]? = some (.cells (dA y) 36 (0,0))
 flt:Wb.heap[W.heap.size+1]? = some (.cells #[.int .i64 y.c,.int .i64 y.f] 25 (0,0))
 big:w.heap.size+6<=W.heap.size
theorem Pj{w W:World}{s:ByteArray}{Ys:List Yd}{i:Nat}{D:Nat->Prop}{y:Yd}(q:BI w s Ys i D W)(h6:w.heap.size+6<=W.heap.size)(o:Obj):aAd w s Ys i D y W ((yG y W).putObj (w.heap.size+5) o):=by
 have hB:Below W.heap.size W (yG y W):=((bO _ W).alloc (ay _) _).alloc (by simp) _
 have q1:BI w s Ys i D (yG y W):=q.upd (It.bL.of_below hB)
 refine⟨q1.upd (It.kY (S:=λk=>k=w.heap.size+5) rfl o),?_,?_,h6⟩
 ·rw[dI (by omega)]
  exact(bY _ _ _ (by simp)).trans (dQ W _)
 ·rw[dI (by omega)]
  have:=dQ (W.alloc (.cells (dA y) 36)) (.cells #[.int .i64 y.c,.int .i64 y.f] 25)
  rwa [aY] at this
set_option linter.unusedSimpArgs false
def Pz(Ys:List Yd)(B:Nat)(e:Ending)(w':World):Prop:=
 (∃y,Ys.find? (λy=>y.c != 0)=some y/\e=.returned (.tuple #[.slice none 0 0,.agg #[.int .i64 y.c,.int .i64 y.f]])) \/
 ((∀y ∈ Ys,y.c=0)/\∃v,e=.returned (.tuple #[v,.agg #[.int .i64 0,.int .i64 0]])/\w'.ownsRow B 36 5 v Ys.length (mY Ys))
theorem PO(Ys:List Yd)(i:Nat)(y:Yd)(hi:i<Ys.length)(hy:Ys.getD i ⟨gX,0,0,0⟩=y)(ok:∀z ∈ Ys.take i,z.c=0)(hc:¬y.c=0):Ys.find? (λy=>y.c != 0)=some y:=by
 rw[dR,gL hi] at hy
 have hy':Ys[i]=y:=hy
 rw[<- List.take_append_drop i Ys,List.find?_append]
 have h1:(Ys.take i).find? (λy=>y.c != 0)=none:=by
  rw[List.find?_eq_none]
  intro z hz
  simp[ok z hz]
 rw[h1,List.drop_eq_getElem_cons hi,hy',List.find?_cons]
 have h2:(y.c != 0)=true:=by simp[hc]
 rw[h2]
 rfl
def xu:Yd:=⟨gX,0,0,0⟩
theorem vB(t:Array Value)(p q:Nat)(u v:Value):Array.foldl (λ(t:Array Value) (x:Tmp × Value)=>match x with|(p,v)=>t.setIfInBounds p v) t (#[p,q].zip #[u,v])=(t.setIfInBounds p u).setIfInBounds q v:=by simp
theorem Ji(w:World)(s:ByteArray)(Ys:List Yd):BI w s Ys 0 (λk=>k=w.heap.size+2) ((((w.alloc (.cells #[.slice none 0 0] 51)).alloc (.cells #[.int .i64 0,.int .i64 0] 25)).alloc (.cells #[.slice none 0 0] 51)).alloc (.cells #[.string s] 9)):=by
 have n1:=dQ w (.cells #[.slice none 0 0] 51)
 have n2:=dQ (w.alloc (.cells #[.slice none 0 0] 51)) (.cells #[.int .i64 0,.int .i64 0] 25)
 have n3:=dQ ((w.alloc (.cells #[.slice none 0 0] 51)).alloc (.cells #[.int .i64 0,.int .i64 0] 25)) (.cells #[.slice none 0 0] 51)
 have n4:=dQ (((w.alloc (.cells #[.slice none 0 0] 51)).alloc (.cells #[.int .i64 0,.int .i64 0] 25)).alloc (.cells #[.slice none 0 0] 51)) (.cells #[.string s] 9)
 simp only[aY] at n2 n3 n4
 refine⟨((((bO _ w).alloc (ay _) _).alloc (by simp) _).alloc (by simp only[aY];omega) _).alloc (by simp only[aY];omega) _,by simp,?_,?_,n4,by simp,.slice none 0 0,?_,?_,by simp[Value.ownBlock],by simp[Value.ownBlock]⟩
 ·exact(bY _ _ _ (by simp only[aY];omega)).trans ((bY _ _ _ (by simp only[aY];omega)).trans ((bY _ _ _ (by simp)).trans n1))
 ·exact(bY _ _ _ (by simp only[aY];omega)).trans ((bY _ _ _ (by simp)).trans n2)
 ·exact(bY _ _ _ (by simp)).trans n3
 ·exact World.ownsRow_nil _ _ _ _
theorem NQ(s:ByteArray)(Ys:List Yd)(hlen:Ys.length<=1000001)(hit:∀sb,sW 44 #[.pointer (some ⟨sb,0,none⟩)] (Ys.map yy) (λW=>W.cell? ⟨sb,0,none⟩=some (.string s)/\Tabs W/\MarksIn W))(w:World)(ht:Tabs w)(hm:MarksIn w) :
  Calls prog 150 #[.string s] w λe w'=>Below w.heap.size w w'/\Pz Ys w.heap.size e w':=by
 have cv:=Bh
 refine(callsIn_wide (n:=9)).1 ?_
 refine callsIn_of_wp_marks func150 rfl trivial ?_ rfl
 refine wpIn_wide.2 ?_
 simp only[ntmps150,List.size_toArray,List.length_cons,List.length_nil,Nat.reduceAdd,Nat.reduceSub,Array.replicate_succ,Array.replicate_zero,List.push_toArray,List.append_toArray,List.nil_append,List.cons_append]
 go_wp2_with (go_at_call 27;(with_reducible refine(cv _ _).mono ?_);rintro e w8 ⟨rfl,hw8⟩;(have hw':=hw8.symm);subst hw';clear hw8)
 have q0:BI w s Ys 0 (λk=>k=w.heap.size+2) ((((w.alloc (.cells #[.slice none 0 0] 51)).alloc (.cells #[.int .i64 0,.int .i64 0] 25)).alloc (.cells #[.slice none 0 0] 51)).alloc (.cells #[.string s] 9)):=Ji w s Ys
 have z0:((((w.alloc (.cells #[.slice none 0 0] 51)).alloc (.cells #[.int .i64 0,.int .i64 0] 25)).alloc (.cells #[.slice none 0 0] 51)).alloc (.cells #[.string s] 9)).heap.size=w.heap.size+4:=by simp
 generalize gI (gI (gI (gI w _) _) _) _=W0 at *
 have hY:∀ (i:Nat) (hi:i<(Ys.map yy).length),(Ys.map yy)[i]=yy (Ys.getD i xu):=λi hi=>by
  rw[List.getElem_map]
  congr 1
  rw[dR,gL (by simpa using hi)]
  rfl
 refine wW (hit (w.heap.size+1+1+1)) Gd rfl (BI w s Ys) (Ni w Ys) ?hL ?hI ?hIx (λk=>k=w.heap.size+2) q0 (λi W=>allA { tmps:=#[.string s,undef,.pointer (some ⟨w.heap.size,0,none⟩),.pointer (some ⟨w.heap.size+1,0,none⟩),.pointer (some ⟨w.heap.size+1+1,0,none⟩),undef,undef,.string s,.func (.func 44) #[] #[.pointer (some ⟨w.heap.size+1+1+1,0,none⟩)],undef,undef,undef,undef,undef,undef,undef,undef,undef,undef,undef,undef],defers:=[] } (Ys.getD i xu) W) (λi W=>yG (Ys.getD i xu) W) ?hN ?hsz ?assign ?body ?done ?stop
 case hL=>
  intro i D W q
  refine⟨⟨cell_of_row _ _ 0 _ _ _ q.src,ht.below q.bf,hm.below q.bf⟩,?_⟩
  obtain⟨v,h1,h2,h3,h4⟩:=q.row
  intro k hk
  rcases(h4 k).1 hk with rfl|e
  ·exact(eU.1 h1).1
  ·exact(h2.lt k e).2
 case hI=>
  intro i D W W' q hu
  rw[z0] at hu
  exact q.upd hu
 case hIx=>
  intro c W W' q hu
  rw[z0] at hu
  exact q.upd hu
 case hN=>intro i W;exact((bO _ W).alloc (ay _) _).alloc (by simp) _
 case hsz=>intro i hi;rw[hY i hi];rfl
 case assign=>
  intro L i hi W K hK
  rw[hY i hi]
  generalize Ys.getD i xu=y at *
  obtain⟨t,ya,yc,yf⟩:=y
  simp only[yy,yv,tv,vB,gy,jl,lH]
  gi_wp2_with (simp only[Oper.semAt];go_simp)
  exact hK
 case body=>
  intro L i hi D W o FE q hs
  rw[z0] at FE hs
  subst FE
  obtain⟨y,hy⟩:∃y,Ys.getD i xu=y:=⟨_,rfl⟩
  rw[hy]
  have B:=Pj (y:=y) q hs o
  rw[z0]
  generalize hWb:(yG y W).putObj (w.heap.size+4+1) o=Wb at *
  clear q
  obtain⟨v,h1,h2,h3,h4⟩:=B.q.row
  obtain⟨o9,c9,rfl⟩:=aI h2
  have c5:=aA B.tok
  have c6:=aA B.flt
  have d0:Wb.cell? ⟨W.heap.size+1,0,none⟩=some (.int .i64 y.c):=c6 0
  have d1:Wb.cell? ⟨W.heap.size+1,1,none⟩=some (.int .i64 y.f):=c6 1
  have b4:Wb.cell? ⟨w.heap.size+1+1,0,none⟩=some (.slice o9 i c9):=cell_of_row _ _ 0 _ _ _ h1
  have BB:=hid B
  have H2:=hid h2
  have H3:=hid h3
  have H4:=hid h4
  simp only[allA,gy,jl,lH]
  by_cases hc:y.c=0
  ·have hil:i<Ys.length:=by simpa using hi
   have hy':Ys[i]=y:=by
    rw[dR,gL hil] at hy
    exact hy
   have hbz:w.heap.size+6<=Wb.heap.size:=by have:=B.big;have:=(eU.1 B.tok).1;omega
   obtain⟨v',w1,hrun,ho',hg,hnil,hk⟩:=xR Wb 51 (.slice o9 i c9) i _ h2 (by omega) y (by omega)
   have QZ:It.bL (λk=>(Value.slice o9 i c9).ownBlock=some k) (Wb.alloc (.cells (dA y) 36)) w1:=(It.bL.refl _ _).grown hg (λk e=>.inl e)
   have hU:It.bL (λk=>(Value.slice o9 i c9).ownBlock=some k) Wb w1:=(It.bL.of_below ((bO _ Wb).alloc (ay _) _)).trans' QZ
   obtain⟨o8,c8,rfl⟩:=aI ho'
   have q4:w1.heap[w.heap.size+1+1]? = some (.cells #[.slice o9 i c9] 51 (0,0)):=(hU.block _ (by omega) (λe=>by have:=h3 _ e;omega)).trans h1
   have cw:w1.cell? ⟨w.heap.size+1+1,0,none⟩=some (.slice o9 i c9):=aA q4 0
   have fw:w1.frozen? ⟨w.heap.size+1+1,0,none⟩=false:=aC q4 0
   have t0:Wb.cell? ⟨W.heap.size,0,none⟩=some (.int .i64 y.t.kind):=c5 0
   have t1:Wb.cell? ⟨W.heap.size,1,none⟩=some (.int .i64 y.a):=c5 1
   have t2:Wb.cell? ⟨W.heap.size,2,none⟩=some (.string y.t.text):=c5 2
   have t3:Wb.cell? ⟨W.heap.size,3,none⟩=some (.int .i64 y.t.int):=c5 3
   have t4:Wb.cell? ⟨W.heap.size,4,none⟩=some (.int .u64 y.t.bits):=c5 4
   rw[hc] at d0
   have HU:=hid hU
   have HO:=hid ho'
   have HK:=hid hk
   have Q4:=hid q4
   unfold dA at hrun
   clear h1 h2 h3 h4 c5 c6 B hit q0 hlen hY hm ht cv hU QZ hg hnil ho' hk q4
   gi_wp2_with (first|(with_reducible refine tu _ (.tmp 15) (.tmp 17) 51 51 rfl _ _ (by simp[Act.eval]) (by simp[Act.eval]) _ _ hrun ?_)|(simp only[Oper.semAt];go_simp))
   have hne:∀k,(Value.slice o9 i c9).ownBlock=some k->w.heap.size+6<=k:=H3.out
   have hloc:∀k,(Value.slice o8 (i+1) c8).ownBlock=some k->w.heap.size+6<=k:=by
    intro k e
    rcases HK.out with e2|e2
    ·rw[e2] at e;exact hne k e
    ·rw[e2] at e
     simp only[aY,Option.some.injEq] at e
     omega
   have mE:It.bL (λk=>(Value.slice o9 i c9).ownBlock=some k\/k=w.heap.size+1+1) Wb (w1.setCell ⟨w.heap.size+1+1,0,none⟩ (.slice o8 (i+1) c8)):=
    (It.bL.setCell (S:=λk=>(Value.slice o9 i c9).ownBlock=some k\/k=w.heap.size+1+1) ⟨HU.out.os,HU.out.tape,HU.out.output,HU.out.size,λk hk2 hn=>HU.out.block k hk2 (λe=>hn (.inl e))⟩ (p:=⟨w.heap.size+1+1,0,none⟩) (.inl (.inr rfl)) _)
   have bx2:(w1.setCell ⟨w.heap.size+1+1,0,none⟩ (.slice o8 (i+1) c8)).heap[w.heap.size+1+1]? = some (.cells #[.slice o8 (i+1) c8] 51 (0,0)):=aM (c:=[.slice o9 i c9]) Q4.out 0 (.slice o8 (i+1) c8)
   have kp:∀k,k<Wb.heap.size->k≠w.heap.size+2->k<w.heap.size+6->(w1.setCell ⟨w.heap.size+1+1,0,none⟩ (.slice o8 (i+1) c8)).heap[k]? = Wb.heap[k]?:=λk h1 h2 h3=>mE.block k h1 (by
    rintro(e|e)
    ·have:=hne k e;omega
    ·omega)
   refine⟨⟨kp _ (by omega) (by omega) (by omega),kp _ (by omega) (by omega) (by omega)⟩,λk h1 h2=>mE.block k h1 (λe=>h2 ((H4.out k).2 (e.elim (λe=>.inr e) (λe=>.inl e)))),(λk=>k=w.heap.size+2\/(Value.slice o8 (i+1) c8).ownBlock=some k),?_⟩
   refine⟨⟨mE.os.trans BB.out.q.bf.os,mE.tape.trans BB.out.q.bf.tape,mE.output.trans BB.out.q.bf.output,aH BB.out.q.bf.size mE.size,λk hk=>(kp k (by omega) (by omega) (by omega)).trans (BB.out.q.bf.block k hk)⟩,aH BB.out.q.sz mE.size,(kp _ (by omega) (by omega) (by omega)).trans BB.out.q.r2,(kp _ (by omega) (by omega) (by omega)).trans BB.out.q.r3,(kp _ (by omega) (by omega) (by omega)).trans BB.out.q.src,?_,_,bx2,?_,hloc,λk=>Iff.rfl⟩
   ·intro z hz
    rw[qV hil,List.mem_append] at hz
    rcases hz with hz|hz
    ·exact BB.out.q.ok z hz
    ·simp at hz
     rw[hz,hy',hc]
   ·rw[vk Ys i hil,hy']
    exact bD HO.out (λk e=>aL _ _ _ _ (by have:=hloc k e;show k≠w.heap.size+1+1;omega))
  ·have e2:=aA B.q.r2
   have e3:=aA B.q.r3
   have g2:=aC B.q.r2
   have g3:=aC B.q.r3
   clear h1 h2 h3 h4 c5 c6 B hit q0 hlen hY hm ht cv
   have k2:Wb.cell? ⟨w.heap.size,0,none⟩=some (.slice none 0 0):=e2 0
   have k3:Wb.cell? ⟨w.heap.size+1,0,none⟩=some (.int .i64 0):=e3 0
   have k4:Wb.cell? ⟨w.heap.size+1,1,none⟩=some (.int .i64 0):=e3 1
   have n1:¬W.heap.size+1=w.heap.size:=by omega
   have n2:¬W.heap.size=w.heap.size:=by omega
   clear e2 e3
   gi_wp2_with (simp only[Oper.semAt];go_simp)
   have hS:Wb.drew.cell? ⟨W.heap.size+1,0,none⟩=some (.int .i64 y.c)/\Wb.drew.cell? ⟨W.heap.size+1,1,none⟩=some (.int .i64 y.f):=⟨d0,d1⟩
   refine It.EF (S:=λw'=>w'.cell? ⟨W.heap.size+1,0,none⟩=some (.int .i64 y.c)/\w'.cell? ⟨W.heap.size+1,1,none⟩=some (.int .i64 y.f)) (by kernel_rfl) (by kernel_rfl) (by rintro⟨a,w,hF⟩;exact hF) ?_
   (refine It.nH 0 ?_ rfl (by kernel_rfl) (λ_ _ _ h=>h) (Or.inl ⟨by rfl,?_⟩) hS ?_);rotate_left;(focus (intro w' hSw;obtain⟨q1,q2⟩:=hSw;go_simp;(try with_reducible rfl)));(try simp only[Act.put,gy,lH,jl])
   refine wpAnyH_ready (rs:=[1]) (by kernel_rfl) (by simp) ?_
   refine AllReadyH.cons rfl (λK hK=>?_) AllReadyH.nil
   go_simp
   have u1:It.bL (λk=>k=w.heap.size\/k=w.heap.size+1) Wb (Wb.setCell ⟨w.heap.size,0,none⟩ (.slice none 0 0)).drew:=((It.bL.refl _ Wb).setCell (p:=⟨w.heap.size,0,none⟩) (.inl (.inl rfl)) _).drew
   have a2:(Wb.setCell ⟨w.heap.size,0,none⟩ (.slice none 0 0)).drew.heap[w.heap.size]? = some (.cells #[.slice none 0 0] 51 (0,0)):=aM (c:=[.slice none 0 0]) BB.out.q.r2 0 (.slice none 0 0)
   have a3:(Wb.setCell ⟨w.heap.size,0,none⟩ (.slice none 0 0)).drew.heap[w.heap.size+1]? = some (.cells #[.int .i64 0,.int .i64 0] 25 (0,0)):=(aL _ _ _ _ (by show w.heap.size+1≠w.heap.size;omega)).trans BB.out.q.r3
   have a6:(Wb.setCell ⟨w.heap.size,0,none⟩ (.slice none 0 0)).drew.heap[W.heap.size+1]? = some (.cells #[.int .i64 y.c,.int .i64 y.f] 25 (0,0)):=(aL _ _ _ _ (by show W.heap.size+1≠w.heap.size;omega)).trans BB.out.flt
   generalize (Wb.setCell ⟨w.heap.size,0,none⟩ (.slice none 0 0)).drew=Wc at *
   refine hK.out _ _ ⟨aA a6 0,aA a6 1⟩ (λhS2=>?_)
   clear hK K hS
   have U1:=hid u1
   have A2:=hid a2
   have A3:=hid a3
   have A6:=hid a6
   have k3:Wc.cell? ⟨w.heap.size+1,0,none⟩=some (.int .i64 0):=aA a3 0
   have k4:Wc.cell? ⟨w.heap.size+1,1,none⟩=some (.int .i64 0):=aA a3 1
   have g4:=aC a3
   clear u1 a2 a3 a6 g2 g3 k2
   refine wpAnyH_ready (rs:=[2]) (by kernel_rfl) (by simp) ?_
   refine AllReadyH.cons rfl (λK hK=>?_) AllReadyH.nil
   go_simp
   have u2:It.bL (λk=>k=w.heap.size\/k=w.heap.size+1) Wc ((Wc.setCell ⟨w.heap.size+1,0,none⟩ (.int .i64 y.c)).setCell ⟨w.heap.size+1,1,none⟩ (.int .i64 y.f)):=((It.bL.refl _ Wc).setCell (p:=⟨w.heap.size+1,0,none⟩) (.inl (.inr rfl)) _).setCell (p:=⟨w.heap.size+1,1,none⟩) (.inl (.inr rfl)) _
   have b3:((Wc.setCell ⟨w.heap.size+1,0,none⟩ (.int .i64 y.c)).setCell ⟨w.heap.size+1,1,none⟩ (.int .i64 y.f)).heap[w.heap.size+1]? = some (.cells #[.int .i64 y.c,.int .i64 y.f] 25 (0,0)):=aM (c:=[.int .i64 y.c,.int .i64 0]) (aM (c:=[.int .i64 0,.int .i64 0]) A3.out 0 (.int .i64 y.c)) 1 (.int .i64 y.f)
   have b2:((Wc.setCell ⟨w.heap.size+1,0,none⟩ (.int .i64 y.c)).setCell ⟨w.heap.size+1,1,none⟩ (.int .i64 y.f)).heap[w.heap.size]? = some (.cells #[.slice none 0 0] 51 (0,0)):=((aL _ _ _ _ (by show w.heap.size≠w.heap.size+1;omega)).trans (aL _ _ _ _ (by show w.heap.size≠w.heap.size+1;omega))).trans A2.out
   have b6:((Wc.setCell ⟨w.heap.size+1,0,none⟩ (.int .i64 y.c)).setCell ⟨w.heap.size+1,1,none⟩ (.int .i64 y.f)).heap[W.heap.size+1]? = some (.cells #[.int .i64 y.c,.int .i64 y.f] 25 (0,0)):=((aL _ _ _ _ (by show W.heap.size+1≠w.heap.size+1;omega)).trans (aL _ _ _ _ (by show W.heap.size+1≠w.heap.size+1;omega))).trans A6.out
   generalize (Wc.setCell ⟨w.heap.size+1,0,none⟩ (.int .i64 y.c)).setCell ⟨w.heap.size+1,1,none⟩ (.int .i64 y.f)=Wd at *
   refine hK.out _ _ ⟨aA b6 0,aA b6 1⟩ (λUW=>?_)
   clear hK K
   refine wpAnyH_done (by kernel_rfl) ?_ _
   have u3:=U1.out.trans' u2
   have X:Ni w Ys .ret Wd:=by
    refine⟨rfl,⟨u3.os.trans BB.out.q.bf.os,u3.tape.trans BB.out.q.bf.tape,u3.output.trans BB.out.q.bf.output,aH BB.out.q.bf.size u3.size,λk hk=>(u3.block k (by have:=BB.out.q.sz;omega) (by omega)).trans (BB.out.q.bf.block k hk)⟩,aH BB.out.q.sz u3.size,b2,y,?_,b3⟩
    exact PO Ys i y (by simpa using hi) hy BB.out.q.ok hc
   have p1:Wd.heap[w.heap.size+4+1]? = Wb.heap[w.heap.size+4+1]?:=u3.block _ (by have:=BB.out.big;have:=BB.out.q.sz;have:=(eU.1 BB.out.tok).1;omega) (by omega)
   have p2:Wd.heap[w.heap.size+4]? = Wb.heap[w.heap.size+4]?:=u3.block _ (by have:=BB.out.big;have:=BB.out.q.sz;have:=(eU.1 BB.out.tok).1;omega) (by omega)
   have XX:=hid X
   clear X
   gi_wp2
   exact⟨⟨p1,p2⟩,XX.out⟩
 case done=>
  intro D W q hD
  rw[List.length_map] at q
  obtain⟨v,h1,h2,h3,h4⟩:=q.row
  obtain⟨o9,c9,rfl⟩:=aI h2
  have b4:W.cell? ⟨w.heap.size+1+1,0,none⟩=some (.slice o9 Ys.length c9):=cell_of_row _ _ 0 _ _ _ h1
  have k2:W.cell? ⟨w.heap.size,0,none⟩=some (.slice none 0 0):=aA q.r2 0
  have k3:W.cell? ⟨w.heap.size+1,0,none⟩=some (.int .i64 0):=aA q.r3 0
  have k4:W.cell? ⟨w.heap.size+1,1,none⟩=some (.int .i64 0):=aA q.r3 1
  have g2:=aC q.r2
  have g3:=aC q.r3
  have QQ:=hid q
  have H2:=hid h2
  have H3:=hid h3
  have HD:=hid hD
  have hok:∀y ∈ Ys,y.c=0:=by have:=q.ok;rwa [List.take_of_length_le (ay _)] at this
  have OK:=hid hok
  rw[z0]
  rw[z0] at HD
  clear q h1 h2 h3 h4 hit q0 hY hm ht cv hD hok hlen
  generalize hnn:Ys.length=nn at *
  go_wp2
  have u2:It.bL (λk=>k=w.heap.size\/k=w.heap.size+1) W (((W.setCell ⟨w.heap.size,0,none⟩ (.slice o9 nn c9)).setCell ⟨w.heap.size+1,0,none⟩ (.int .i64 0)).setCell ⟨w.heap.size+1,1,none⟩ (.int .i64 0)):=(((It.bL.refl _ W).setCell (p:=⟨w.heap.size,0,none⟩) (.inl (.inl rfl)) _).setCell (p:=⟨w.heap.size+1,0,none⟩) (.inl (.inr rfl)) _).setCell (p:=⟨w.heap.size+1,1,none⟩) (.inl (.inr rfl)) _
  have a3:(W.setCell ⟨w.heap.size,0,none⟩ (.slice o9 nn c9)).heap[w.heap.size+1]? = some (.cells #[.int .i64 0,.int .i64 0] 25 (0,0)):=(aL _ _ _ _ (by show w.heap.size+1≠w.heap.size;omega)).trans QQ.out.r3
  have b3:(((W.setCell ⟨w.heap.size,0,none⟩ (.slice o9 nn c9)).setCell ⟨w.heap.size+1,0,none⟩ (.int .i64 0)).setCell ⟨w.heap.size+1,1,none⟩ (.int .i64 0)).heap[w.heap.size+1]? = some (.cells #[.int .i64 0,.int .i64 0] 25 (0,0)):=aM (c:=[.int .i64 0,.int .i64 0]) (aM (c:=[.int .i64 0,.int .i64 0]) a3 0 (.int .i64 0)) 1 (.int .i64 0)
  have b2:(((W.setCell ⟨w.heap.size,0,none⟩ (.slice o9 nn c9)).setCell ⟨w.heap.size+1,0,none⟩ (.int .i64 0)).setCell ⟨w.heap.size+1,1,none⟩ (.int .i64 0)).heap[w.heap.size]? = some (.cells #[.slice o9 nn c9] 51 (0,0)):=((aL _ _ _ _ (by show w.heap.size≠w.heap.size+1;omega)).trans (aL _ _ _ _ (by show w.heap.size≠w.heap.size+1;omega))).trans (aM (c:=[.slice none 0 0]) QQ.out.r2 0 (.slice o9 nn c9))
  generalize ((W.setCell ⟨w.heap.size,0,none⟩ (.slice o9 nn c9)).setCell ⟨w.heap.size+1,0,none⟩ (.int .i64 0)).setCell ⟨w.heap.size+1,1,none⟩ (.int .i64 0)=Wd at *
  have hD2:Wd.heap[w.heap.size+4]? = some (.deferred (some [])):=(u2.block _ (eU.1 HD.out).1 (by omega)).trans HD.out
  refine⟨by simp,.inl ⟨_,_,rfl,run_takeDeferred hD2,?_⟩⟩
  have u3:It.bL (λk=>k=w.heap.size\/k=w.heap.size+1\/k=w.heap.size+4) W (Wd.putObj (w.heap.size+4) (.deferred none)):=(u2.mono (λk e=>e.elim .inl (λe=>.inr (.inl e)))).trans' (It.kY (S:=λk=>k=w.heap.size\/k=w.heap.size+1\/k=w.heap.size+4) (.inr (.inr rfl)) _)
  refine⟨_,Gj rfl _ _ w.heap.size (w.heap.size+1) _ _ _ (0,0) (0,0) _ rfl rfl ((dI (by omega)).trans b2) ((dI (by omega)).trans b3),?_,.inr ⟨OK.out,_,rfl,?_⟩⟩
  ·exact⟨u3.os.trans QQ.out.bf.os,u3.tape.trans QQ.out.bf.tape,u3.output.trans QQ.out.bf.output,aH QQ.out.bf.size u3.size,λk hk=>(u3.block k (by have:=QQ.out.sz;omega) (by omega)).trans (QQ.out.bf.block k hk)⟩
  ·have h2:=H2.out
   rw[List.take_of_length_le (by omega)] at h2
   rw[hnn]
   exact bD h2 (λk e=>u3.block k (h2.lt k e).2 (by have:=H3.out k e;omega))
 case stop=>
  intro c W q hD
  obtain rfl:=q.code
  obtain⟨y,h1,h2⟩:=q.bad
  rw[z0]
  rw[z0] at hD
  have QQ:=hid q
  clear hit q0 hY hm ht cv hlen q
  go_wp2
  refine⟨by simp,.inl ⟨_,_,rfl,run_takeDeferred hD,?_⟩⟩
  have u3:It.bL (λk=>k=w.heap.size+4) W (W.putObj (w.heap.size+4) (.deferred none)):=It.kY (S:=λk=>k=w.heap.size+4) rfl _
  refine⟨_,Gj rfl _ _ w.heap.size (w.heap.size+1) _ _ _ (0,0) (0,0) _ rfl rfl ((dI (by omega)).trans QQ.out.r2) ((dI (by omega)).trans h2),?_,.inl ⟨y,h1,rfl⟩⟩
  exact⟨u3.os.trans QQ.out.bf.os,u3.tape.trans QQ.out.bf.tape,u3.output.trans QQ.out.bf.output,aH QQ.out.bf.size u3.size,λk hk=>(u3.block k (by have:=QQ.out.sz;omega) (by omega)).trans (QQ.out.bf.block k hk)⟩
theorem Ww(s:ByteArray)(hs:s.size<=1000000)(w:World)(ht:Tabs w)(hm:MarksIn w) :
  Calls prog 150 #[.string s] w λe w'=>Below w.heap.size w w'/\Pz (gU s.data.toList) w.heap.size e w':=by
 refine NQ s (gU s.data.toList) ?_ (λsb=>?_) w ht hm
 ·have:=rH s.data.toList
  rw[size_list] at this
  omega
 ·rw[<- BZ]
  exact yK s hs sb
structure BW (w:World) where
 w':World
 h:Below w.heap.size w w'
theorem wp_region_quiet_below{id:Nat}{Q:Exit->Act->World->Prop}{a:Act}{w:World}{l:List Oper}(hm:prog.follows .mixedOrders=true)(hB:Region.lexB .any l.toArray=true)
  (h:wpQuiet prog l.toArray (λw'=>∃p:BW w,w'=p.w') (λa'=>∀w',(∃p:BW w,w'=p.w')->Q .normal a' w') l a):(Code.region id l.toArray true).wp prog Q a w:=
 wp_region_quiet (C:=λw'=>∃p:BW w,w'=p.w') hm hB ⟨⟨w.drew,(bO _ w).drew⟩,rfl⟩ (by simpa using h)
theorem BW.calls{P:Program}{f:FuncId}{args:Array Value}{w:World}{p:BW w}{v:Value}(h:Calls P f args p.w' λe w'=>e=.returned v/\Below p.w'.heap.size p.w' w'):Calls P f args p.w' λe w''=>e=.returned v/\∃p':BW w,w''=p'.w':=
 h.mono λ_ w'' ⟨he,hB⟩=>⟨he,⟨w'',p.h.trans (hB.mono p.h.size)⟩,rfl⟩
theorem BW.cell{w:World}{a:Addr}{v:Value}(h:w.cell? a=some v)(p:BW w):p.w'.cell? a=some v:=It.eZ p.h h
structure Sx (w W:World):Prop where
 bf:Below w.heap.size w W
 tabs:Tabs W
 marks:MarksIn W
theorem Sx.go{w W W':World}(h:Sx w W)(hb:Below W.heap.size W W'):Sx w W':=⟨h.bf.trans (hb.mono h.bf.size),h.tabs.below hb,h.marks.below hb⟩
theorem Sx.alloc{w W:World}(h:Sx w W)(o:Obj):Sx w (W.alloc o):=h.go ((bO _ W).alloc (ay _) o)
theorem Sx.refl{w:World}(ht:Tabs w)(hm:MarksIn w):Sx w w:=⟨bO _ w,ht,hm⟩
end Go.Proofs.YtgchnkgolclmgaaGreatDoor.W

import Derived.Test.YtgchnkgolclmgaaGreatDoorJU
import Derived.Test.YtgchnkgolclmgaaGreatDoorJV
import Derived.Test.YtgchnkgolclmgaaGreatDoorJG
import Derived.Test.YtgchnkgolclmgaaGreatDoorJR
open List renaming getElem?_eq_getElem → eU, getD_eq_getElem?_getD → dR, setIfInBounds_toArray → gL, takeWhile_cons_of_pos → gy, getElem?_eq_some_iff → jl
open Array renaming getElem?_eq_some_iff → bY
open Nat renaming le_trans → aH, le_refl → aL, zero_le → dQ
open Go.World renaming alloc_heap_new → ay, size_alloc → bO, putObj_heap_other → gI
open Go.RowKit.Below renaming refl → aY, heap_alloc → dI
open List renaming getElem_toArray → aW, getElem_cons_zero → aV, getElem_cons_succ → aU, setIfInBounds_toArray → aT, set_cons_zero → aS, set_cons_succ → aR
set_option maxRecDepth 1000000
set_option maxHeartbeats 8000000
namespace Go.Proofs.YtgchnkgolclmgaaGreatDoor.W.Tr
open Go.ChangeShapes Go.WideShapes Go.RowKit Go.Shelf
set_option linter.unusedVariables false
theorem dV(g:Nat)(nt:Nt):fZ g nt 0:=λW cb Ys v s r h hp=>(iY hp).elim
theorem zS(g:Nat)(a:Value)(nt:Nt):xZ g a nt 0:=λW cb Ys v s r h hp=>(iY hp).elim
theorem zR(g:Nat)(a:Value)(nt:Nt):BH g a nt 0:=λW cb Ys v s r h hp=>(iY hp).elim
theorem Jb(g:Nat):Nh g 0:=λW0 W cb Ys v s b nd ks r hl h hp=>(iY hp).elim
structure XC (n:Nat):Prop where
 ex:fZ 148 .ex n
 cj:fZ 165 .cj n
 ng:fZ 172 .ng n
 cm:fZ 178 .cm n
 bn:∀k:Nat,k<=7->xZ 183 (.int .i64 (k:Int)) (.bn k) n
 un:fZ 185 .un n
 po:fZ 186 .po n
 pr:fZ 187 .pr n
 nm:fZ 188 .nm n
 wd:fZ 189 .wd n
 le:BH 53 (.func (.func 148) #[] #[]) (.ls false) n
 lp:BH 53 (.func (.func 54) #[] #[]) (.ls true) n
 pm:fZ 54 .pm n
 gl:fZ 31 .gl n
 fu:fZ 32 .fu n
 bl:fZ 55 .bl n
 st:fZ 83 .st n
 lt:fZ 113 .lt n
 iF:fZ 114 .iF n
 wh:fZ 115 .wh n
 fr:fZ 116 .fr n
 lb:fZ 121 .lb n
 jm:∀k:Int,xZ 117 (.int .i64 k) (.jm k) n
 rt:fZ 118 .rt n
 ou:fZ 119 .ou n
 pl:fZ 122 .pl n
 D6:Nh 149 n
theorem VH:∀n,XC n:=by
 intro n
 induction n using Nat.strongRecOn with
 | _ n ih=>
  match n,ih with
  | 0,_=>exact⟨dV _ _,dV _ _,dV _ _,dV _ _,λ_ _=>zS _ _ _,dV _ _,dV _ _,dV _ _,dV _ _,dV _ _,zR _ _ _,zR _ _ _,dV _ _,dV _ _,dV _ _,dV _ _,dV _ _,dV _ _,dV _ _,dV _ _,dV _ _,dV _ _,λ_=>zS _ _ _,dV _ _,dV _ _,dV _ _,Jb _⟩
  | n+1,ih=>
   have p:∀m,m<=n->XC m:=λm hm=>ih m (by omega)
   have q:=p n (aL _)
   exact {
    ex:=Ak n (λm hm=>(p m hm).cj)
    cj:=yC n (λm hm=>(p m hm).ng)
    ng:=E8 n q.ng q.cm
    cm:=Au n (q.bn 1 (by omega))
    bn:=λk hk=>ND n k hk q.un (λhk m hm=>by have:=(p m hm).bn (k+1) (by omega);simpa using this)
    un:=Ns n q.un q.po
    po:=I9 n q.pr (λm hm=>(p m hm).ex)
    pr:=IX n q.nm q.wd q.ex
    nm:=vM n q.le
    wd:=Qy n
    le:=Iz n (λm hm=>(p m hm).ex)
    lp:=Iy n (λm hm=>(p m hm).pm)
    pm:=Cc n
    gl:=M7 n
    fu:=FI n q.lp q.bl
    bl:=Pb n (λm hm=>(p m hm).st)
    st:=Bo n q.lt q.iF q.wh q.fr (q.jm 13) (q.jm 14) q.rt q.ou q.lb q.pl
    lt:=Sc n q.ex
    iF:=V9 n q.ex q.bl q.iF
    wh:=Jv n q.ex q.bl
    fr:=TH n q.ex q.bl
    lb:=Ej n q.fr q.wh
    jm:=λk=>Oo n k
    rt:=Hz n q.ex
    ou:=Ro n q.ex
    pl:=LX n q.ex q.D6
    D6:=FX n q.ex }
theorem uJ(n:Nat):fZ 20 (.pg .nil) n:=IW n (λm _=>(VH m).gl) (λm _=>(VH m).fu)
set_option linter.unusedSimpArgs false
structure Js (w:World) (s:ByteArray) (Ys:List Yd) (i:Nat) (D:Nat->Prop) (W:World):Prop where
 bf:Below w.heap.size w W
 sz:w.heap.size+3<=W.heap.size
 cv:W.heap[w.heap.size+1]? = some (.cells #[ptr w.heap.size] 49 (0,0))
 src:W.heap[w.heap.size+2]? = some (.cells #[.string s] 9 (0,0))
 ok:∀y ∈ Ys.take i,y.c=0
 row:∃v,W.heap[w.heap.size]? = some (.cells #[v,.int .i64 0,.int .i64 0,.int .i64 0,.int .i64 0,.int .i64 0,.int .i64 0] 53 (0,0))/\W.ownsRow w.heap.size 36 5 v i (mY (Ys.take i))/\(∀k,v.ownBlock=some k->w.heap.size+5<=k)/\∀k,D k↔k=w.heap.size\/v.ownBlock=some k
structure Py (w:World) (Ys:List Yd) (c:Code) (W:World):Prop where
 code:c=.exit 0
 bf:Below w.heap.size w W
 sz:w.heap.size+3<=W.heap.size
 cv:W.heap[w.heap.size+1]? = some (.cells #[ptr w.heap.size] 49 (0,0))
 bad:∃i v y,Ys[i]? = some y/\¬y.c=0/\(∀z ∈ Ys.take i,z.c=0)/\W.heap[w.heap.size]? = some (.cells #[v,.int .i64 y.c,.int .i64 y.f,.int .i64 0,.int .i64 0,.int .i64 0,.int .i64 0] 53 (0,0))/\W.ownsRow w.heap.size 36 5 v i (mY (Ys.take i))/\(∀k,v.ownBlock=some k->w.heap.size+5<=k)
section
variable {w W W':World} {s:ByteArray} {Ys:List Yd} {i:Nat} {D:Nat->Prop}
theorem Js.upd(q:Js w s Ys i D W)(hu:It.bL (λk=>k=w.heap.size+4) W W'):Js w s Ys i D W':=by
 obtain⟨v,h1,h2,h3,h4⟩:=q.row
 have z:=q.sz
 have kp:∀k o,k<w.heap.size+3->W.heap[k]? = some o->W'.heap[k]? = some o:=λk o hk e=>(hu.block k (by omega) (by omega)).trans e
 refine⟨⟨hu.os.trans q.bf.os,hu.tape.trans q.bf.tape,hu.output.trans q.bf.output,aH q.bf.size hu.size,λk hk=>(hu.block k (by omega) (by omega)).trans (q.bf.block k hk)⟩,aH z hu.size,kp _ _ (by omega) q.cv,kp _ _ (by omega) q.src,q.ok,v,kp _ _ (by omega) h1,bD h2 (λk e=>hu.block k (h2.lt k e).2 (by have:=h3 k e;omega)),h3,h4⟩
theorem Py.upd{c:Code}(q:Py w Ys c W)(hu:It.bL (λk=>k=w.heap.size+4) W W'):Py w Ys c W':=by
 have z:=q.sz
 have kp:∀k o,k<w.heap.size+3->W.heap[k]? = some o->W'.heap[k]? = some o:=λk o hk e=>(hu.block k (by omega) (by omega)).trans e
 obtain⟨i,v,y,h1,h2,h3,h4,h5,h6⟩:=q.bad
 exact⟨q.code,⟨hu.os.trans q.bf.os,hu.tape.trans q.bf.tape,hu.output.trans q.bf.output,aH q.bf.size hu.size,λk hk=>(hu.block k (by omega) (by omega)).trans (q.bf.block k hk)⟩,aH z hu.size,kp _ _ (by omega) q.cv,i,v,y,h1,h2,h3,kp _ _ (by omega) h4,bD h5 (λk e=>hu.block k (h5.lt k e).2 (by have:=h6 k e;omega)),h6⟩
theorem Js.RD(q:Js w s Ys i D W)(hu:It.bL (λk=>k=w.heap.size+3) W W'):Js w s Ys i D W':=by
 obtain⟨v,h1,h2,h3,h4⟩:=q.row
 have z:=q.sz
 have kp:∀k o,k<w.heap.size+3->W.heap[k]? = some o->W'.heap[k]? = some o:=λk o hk e=>(hu.block k (by omega) (by omega)).trans e
 refine⟨⟨hu.os.trans q.bf.os,hu.tape.trans q.bf.tape,hu.output.trans q.bf.output,aH q.bf.size hu.size,λk hk=>(hu.block k (by omega) (by omega)).trans (q.bf.block k hk)⟩,aH z hu.size,kp _ _ (by omega) q.cv,kp _ _ (by omega) q.src,q.ok,v,kp _ _ (by omega) h1,bD h2 (λk e=>hu.block k (h2.lt k e).2 (by have:=h3 k e;omega)),h3,h4⟩
theorem Py.RD{c:Code}(q:Py w Ys c W)(hu:It.bL (λk=>k=w.heap.size+3) W W'):Py w Ys c W':=by
 have z:=q.sz
 have kp:∀k o,k<w.heap.size+3->W.heap[k]? = some o->W'.heap[k]? = some o:=λk o hk e=>(hu.block k (by omega) (by omega)).trans e
 obtain⟨i,v,y,h1,h2,h3,h4,h5,h6⟩:=q.bad
 exact⟨q.code,⟨hu.os.trans q.bf.os,hu.tape.trans q.bf.tape,hu.output.trans q.bf.output,aH q.bf.size hu.size,λk hk=>(hu.block k (by omega) (by omega)).trans (q.bf.block k hk)⟩,aH z hu.size,kp _ _ (by omega) q.cv,i,v,y,h1,h2,h3,kp _ _ (by omega) h4,bD h5 (λk e=>hu.block k (h5.lt k e).2 (by have:=h6 k e;omega)),h6⟩
end
def cuA(a:Act)(y:Yd)(W:World):Act:={ tmps:=(((a.tmps.setIfInBounds 10 (tv y.t y.a)).setIfInBounds 11 (.agg #[.int .i64 y.c,.int .i64 y.f])).setIfInBounds 4 (.pointer (some ⟨W.heap.size,0,none⟩))).setIfInBounds 5 (.pointer (some ⟨W.heap.size+1,0,none⟩)),defers:=[] }
structure CuB (w:World) (s:ByteArray) (Ys:List Yd) (i:Nat) (D:Nat->Prop) (y:Yd) (W Wb:World):Prop where
 q:Js w s Ys i D Wb
 tok:Wb.heap[W.heap.size]? = some (.cells (dA y) 36 (0,0))
 flt:Wb.heap[W.heap.size+1]? = some (.cells #[.int .i64 y.c,.int .i64 y.f] 25 (0,0))
 big:w.heap.size+5<=W.heap.size
theorem TN{w W:World}{s:ByteArray}{Ys:List Yd}{i:Nat}{D:Nat->Prop}{y:Yd}(q:Js w s Ys i D W)(h6:w.heap.size+5<=W.heap.size)(o:Obj):CuB w s Ys i D y W ((yG y W).putObj (w.heap.size+4) o):=by
 have hB:Below W.heap.size W (yG y W):=((aY _ W).alloc (aL _) _).alloc (by simp) _
 have q1:Js w s Ys i D (yG y W):=q.upd (It.bL.of_below hB)
 refine⟨q1.upd (It.kY (S:=λk=>k=w.heap.size+4) rfl o),?_,?_,h6⟩
 ·rw[gI (by omega)]
  exact(dI _ _ _ (by simp)).trans (ay W _)
 ·rw[gI (by omega)]
  have:=ay (W.alloc (.cells (dA y) 36)) (.cells #[.int .i64 y.c,.int .i64 y.f] 25)
  rwa [bO] at this
theorem Ml(w:World)(s:ByteArray)(Ys:List Yd):Js w s Ys 0 (λk=>k=w.heap.size) (((w.alloc (.cells #[.slice none 0 0,.int .i64 0,.int .i64 0,.int .i64 0,.int .i64 0,.int .i64 0,.int .i64 0] 53)).alloc (.cells #[ptr w.heap.size] 49)).alloc (.cells #[.string s] 9)):=by
 have n1:=ay w (.cells #[.slice none 0 0,.int .i64 0,.int .i64 0,.int .i64 0,.int .i64 0,.int .i64 0,.int .i64 0] 53)
 have n2:=ay (w.alloc (.cells #[.slice none 0 0,.int .i64 0,.int .i64 0,.int .i64 0,.int .i64 0,.int .i64 0,.int .i64 0] 53)) (.cells #[ptr w.heap.size] 49)
 have n3:=ay ((w.alloc (.cells #[.slice none 0 0,.int .i64 0,.int .i64 0,.int .i64 0,.int .i64 0,.int .i64 0,.int .i64 0] 53)).alloc (.cells #[ptr w.heap.size] 49)) (.cells #[.string s] 9)
 simp only[bO] at n2 n3
 refine⟨(((aY _ w).alloc (aL _) _).alloc (by simp) _).alloc (by simp only[bO];omega) _,by simp,?_,n3,by simp,.slice none 0 0,?_,World.ownsRow_nil _ _ _ _,by simp[Value.ownBlock],by simp[Value.ownBlock]⟩
 ·exact(dI _ _ _ (by simp)).trans n2
 ·exact(dI _ _ _ (by simp only[bO];omega)).trans ((dI _ _ _ (by simp)).trans n1)
theorem DV(s:ByteArray)(Ys:List Yd)(hlen:Ys.length<=1000001)(hit:∀sb,sW 44 #[.pointer (some ⟨sb,0,none⟩)] (Ys.map yy) (λW=>W.cell? ⟨sb,0,none⟩=some (.string s)/\Tabs W/\MarksIn W))(w:World)(ht:Tabs w)(hm:MarksIn w) :
  Calls Tryz.prog 18 #[.string s] w λe w'=>e=.returned (ptr w.heap.size)/\Below w.heap.size w w'/\((∃D,Js w s Ys Ys.length D w')\/Py w Ys (.exit 0) w'):=by
 have cv:=Bh
 refine(callsIn_wide (n:=9)).1 ?_
 refine callsIn_of_wp_marks Tryz.func18 rfl trivial ?_ rfl
 refine wpIn_wide.2 ?_
 simp only[Tryz.ntmps18,List.size_toArray,List.length_cons,List.length_nil,Nat.reduceAdd,Nat.reduceSub,Array.replicate_succ,Array.replicate_zero,List.push_toArray,List.append_toArray,List.nil_append,List.cons_append]
 go_wp2_with (go_at_call 27;(with_reducible refine(cv _ _).mono ?_);rintro e w8 ⟨rfl,hw8⟩;(have hw':=hw8.symm);subst hw';clear hw8)
 have q0:=Ml w s Ys
 have z0:(((w.alloc (.cells #[.slice none 0 0,.int .i64 0,.int .i64 0,.int .i64 0,.int .i64 0,.int .i64 0,.int .i64 0] 53)).alloc (.cells #[ptr w.heap.size] 49)).alloc (.cells #[.string s] 9)).heap.size=w.heap.size+3:=by simp
 generalize World.alloc (World.alloc (World.alloc w _) _) _=W0 at *
 have hY:∀ (i:Nat) (hi:i<(Ys.map yy).length),(Ys.map yy)[i]=yy (Ys.getD i xu):=λi hi=>by
  rw[List.getElem_map]
  congr 1
  rw[dR,eU (by simpa using hi)]
  rfl
 refine wW (hit (w.heap.size+1+1)) Gd rfl (Js w s Ys) (Py w Ys) ?hL ?hI ?hIx (λk=>k=w.heap.size) q0 (λi W=>cuA { tmps:=#[.string s,undef,.pointer none,.pointer (some ⟨w.heap.size+1,0,none⟩),undef,undef,.agg #[.slice none 0 0,.int .i64 0,.int .i64 0,.int .i64 0,.int .i64 0,.int .i64 0,.int .i64 0],.pointer (some ⟨w.heap.size,0,none⟩),.string s,.func (.func 44) #[] #[.pointer (some ⟨w.heap.size+1+1,0,none⟩)],undef,undef,undef,undef,undef,undef,undef,undef,undef,undef,undef,undef,undef,undef,undef,undef,undef,undef,undef,undef],defers:=[] } (Ys.getD i xu) W) (λi W=>yG (Ys.getD i xu) W) ?hN ?hsz ?assign ?body ?done ?stop
 case hL=>
  intro i D W q
  refine⟨⟨cell_of_row _ _ 0 _ _ _ q.src,ht.below q.bf,hm.below q.bf⟩,?_⟩
  obtain⟨v,h1,h2,h3,h4⟩:=q.row
  intro k hk
  rcases(h4 k).1 hk with rfl|e
  ·exact(bY.1 h1).1
  ·exact(h2.lt k e).2
 case hI=>
  intro i D W W' q hu
  rw[z0] at hu
  exact q.upd hu
 case hIx=>
  intro c W W' q hu
  rw[z0] at hu
  exact q.upd hu
 case hN=>intro i W;exact((aY _ W).alloc (aL _) _).alloc (by simp) _
 case hsz=>intro i hi;rw[hY i hi];rfl
 case assign=>
  intro L i hi W K hK
  rw[hY i hi]
  generalize Ys.getD i xu=y at *
  obtain⟨t,ya,yc,yf⟩:=y
  simp only[yy,yv,tv,vB,gL,List.set_cons_succ,List.set_cons_zero]
  gi_wp2_with (simp only[Oper.semAt];go_simp)
  exact hK
 case body=>
  intro L i hi D W o FE q hs
  rw[z0] at FE hs
  subst FE
  obtain⟨y,hy⟩:∃y,Ys.getD i xu=y:=⟨_,rfl⟩
  rw[hy]
  have hDl:∀k,D k->k<W.heap.size:=by
   obtain⟨v,h1,h2,h3,h4⟩:=q.row
   intro k hk
   rcases(h4 k).1 hk with rfl|e
   ·exact(bY.1 h1).1
   ·exact(h2.lt k e).2
  have B:=TN (y:=y) q hs o
  rw[z0]
  generalize hWb:(yG y W).putObj (w.heap.size+3+1) o=Wb at *
  clear q
  obtain⟨v,h1,h2,h3,h4⟩:=B.q.row
  obtain⟨o9,c9,rfl⟩:=aI h2
  have c5:=aA B.tok
  have c6:=aA B.flt
  have d0:Wb.cell? ⟨W.heap.size+1,0,none⟩=some (.int .i64 y.c):=c6 0
  have d1:Wb.cell? ⟨W.heap.size+1,1,none⟩=some (.int .i64 y.f):=c6 1
  have cc:Wb.cell? ⟨w.heap.size+1,0,none⟩=some (ptr w.heap.size):=aA B.q.cv 0
  have b4:Wb.cell? ⟨w.heap.size,0,none⟩=some (.slice o9 i c9):=aA h1 0
  have hil:i<Ys.length:=by simpa using hi
  have hy':Ys[i]=y:=by
   rw[dR,eU hil] at hy
   exact hy
  have BB:=hid B
  have H1:=hid h1
  have H2:=hid h2
  have H3:=hid h3
  have H4:=hid h4
  simp only[cuA,gL,List.set_cons_succ,List.set_cons_zero]
  by_cases hc:y.c=0
  ·have hbz:w.heap.size+5<=Wb.heap.size:=by have:=B.big;have:=(bY.1 B.tok).1;omega
   have t0:Wb.cell? ⟨W.heap.size,0,none⟩=some (.int .i64 y.t.kind):=c5 0
   have t1:Wb.cell? ⟨W.heap.size,1,none⟩=some (.int .i64 y.a):=c5 1
   have t2:Wb.cell? ⟨W.heap.size,2,none⟩=some (.string y.t.text):=c5 2
   have t3:Wb.cell? ⟨W.heap.size,3,none⟩=some (.int .i64 y.t.int):=c5 3
   have t4:Wb.cell? ⟨W.heap.size,4,none⟩=some (.int .u64 y.t.bits):=c5 4
   rw[hc] at d0
   clear h1 h2 h3 h4 c5 c6 B hit q0 hY hm ht cv
   gi_wp2_with (simp only[Oper.semAt];go_simp)
   have hS:Wb.drew.cell? ⟨w.heap.size+1,0,none⟩=some (ptr w.heap.size)/\Wb.drew.cell? ⟨w.heap.size,0,none⟩=some (.slice o9 i c9)/\Wb.drew.cell? ⟨W.heap.size,0,none⟩=some (.int .i64 y.t.kind)/\Wb.drew.cell? ⟨W.heap.size,1,none⟩=some (.int .i64 y.a)/\Wb.drew.cell? ⟨W.heap.size,2,none⟩=some (.string y.t.text)/\Wb.drew.cell? ⟨W.heap.size,3,none⟩=some (.int .i64 y.t.int)/\Wb.drew.cell? ⟨W.heap.size,4,none⟩=some (.int .u64 y.t.bits):=⟨cc,b4,t0,t1,t2,t3,t4⟩
   refine It.EG (z:=10) (S:=(λw'=>w'.cell? ⟨w.heap.size+1,0,none⟩=some (ptr w.heap.size)/\w'.cell? ⟨w.heap.size,0,none⟩=some (.slice o9 i c9)/\w'.cell? ⟨W.heap.size,0,none⟩=some (.int .i64 y.t.kind)/\w'.cell? ⟨W.heap.size,1,none⟩=some (.int .i64 y.a)/\w'.cell? ⟨W.heap.size,2,none⟩=some (.string y.t.text)/\w'.cell? ⟨W.heap.size,3,none⟩=some (.int .i64 y.t.int)/\w'.cell? ⟨W.heap.size,4,none⟩=some (.int .u64 y.t.bits))) (by kernel_rfl) (by kernel_rfl) ?_
   iterate 6 ((refine It.nL 0 ?_ rfl (by kernel_rfl) (λ_ _ _ h=>h) (Or.inl ⟨by rfl,?_⟩) hS ?_);rotate_left;(focus (intro w' hSw;(obtain⟨s0,s1,s2,s3,s4,s5,s6⟩:=hSw);go_simp;(try with_reducible rfl)));(try simp only[Act.put,aW,aV,aU,aT,aS,aR]))
   obtain⟨v2,w1,hrun,ho2,hg,hnil,hk⟩:=xR Wb.drew 51 (.slice o9 i c9) i _ (bD H2.out (λk e=>rfl)) (by show w.heap.size<=Wb.heap.size;omega) y (by omega)
   obtain⟨o8,c8,rfl⟩:=aI ho2
   have QZ:It.bL (λk=>(Value.slice o9 i c9).ownBlock=some k) (Wb.drew.alloc (.cells (dA y) 36)) w1:=(It.bL.refl _ _).grown hg (λk e=>.inl e)
   have XW:It.bL (λk=>(Value.slice o9 i c9).ownBlock=some k) Wb (Wb.drew.alloc (.cells (dA y) 36)):=It.bL.of_below ((aY _ Wb).drew.alloc (aL _) _)
   have hU:It.bL (λk=>(Value.slice o9 i c9).ownBlock=some k) Wb w1:=XW.trans' QZ
   have ne:∀k,k<w.heap.size+5->¬ (Value.slice o9 i c9).ownBlock=some k:=λk hk e=>by have:=H3.out k e;omega
   have nw:¬ (Value.slice o9 i c9).ownBlock=some W.heap.size:=λe=>by have:=hDl _ ((H4.out _).2 (.inr e));omega
   have lW:W.heap.size<Wb.heap.size:=(bY.1 BB.out.tok).1
   have lc:=BB.out.q.sz
   have kc:w1.heap[w.heap.size]? = some (.cells #[.slice o9 i c9,.int .i64 0,.int .i64 0,.int .i64 0,.int .i64 0,.int .i64 0,.int .i64 0] 53 (0,0)):=(hU.block _ (by omega) (ne _ (by omega))).trans H1.out
   have kv:w1.heap[w.heap.size+1]? = some (.cells #[ptr w.heap.size] 49 (0,0)):=(hU.block _ (by omega) (ne _ (by omega))).trans BB.out.q.cv
   have kt:w1.heap[W.heap.size]? = some (.cells (dA y) 36 (0,0)):=(hU.block _ lW nw).trans BB.out.tok
   have hS1:w1.cell? ⟨w.heap.size+1,0,none⟩=some (ptr w.heap.size)/\w1.cell? ⟨w.heap.size,0,none⟩=some (.slice o9 i c9)/\w1.cell? ⟨W.heap.size,0,none⟩=some (.int .i64 y.t.kind)/\w1.cell? ⟨W.heap.size,1,none⟩=some (.int .i64 y.a)/\w1.cell? ⟨W.heap.size,2,none⟩=some (.string y.t.text)/\w1.cell? ⟨W.heap.size,3,none⟩=some (.int .i64 y.t.int)/\w1.cell? ⟨W.heap.size,4,none⟩=some (.int .u64 y.t.bits):=⟨aA kv 0,aA kc 0,aA kt 0,aA kt 1,aA kt 2,aA kt 3,aA kt 4⟩
   refine It.aD (i:=6) (by kernel_rfl) rfl rfl (λK hK=>?_)
   refine It.aB (λc h=>by cases h) ?_
   have HK:=hid hK
   clear hK
   go_simp
   have bd:Below Wb.heap.size Wb (Wb.drew.alloc (.cells (dA y) 36)):=(aY _ Wb).drew.alloc (aL _) _
   refine HK.out _ _ (.inr ⟨aA (aF BB.out.q.cv bd) 0,aA (aF H1.out bd) 0,aA (aF BB.out.tok bd) 0,aA (aF BB.out.tok bd) 1,aA (aF BB.out.tok bd) 2,aA (aF BB.out.tok bd) 3,aA (aF BB.out.tok bd) 4⟩) ?_
   clear HK
   (try simp only[Act.put,aW,aV,aU,aT,aS,aR])
   unfold dA at hrun
   refine It.aD (i:=7) (by kernel_rfl) rfl rfl (λK hK=>?_)
   refine It.aB (λc h=>by cases h) ?_
   refine Lib.wp_append_run _ (.tmp 23) (.tmp 25) 51 51 rfl _ _ rfl rfl _ _ hrun ?_
   refine hK _ _ (.inr hS1) ?_
   clear hK K hrun
   (try simp only[Act.put,aW,aV,aU,aT,aS,aR])
   refine It.aD (i:=8) (by kernel_rfl) rfl rfl (λK hK=>?_)
   refine It.aB (λc h=>by cases h) ?_
   have HK:=hid hK
   clear hK
   go_simp
   refine HK.out _ _ (.inr hS1) ?_
   clear HK
   (try simp only[Act.put,aW,aV,aU,aT,aS,aR])
   refine It.aD (i:=9) (by kernel_rfl) rfl rfl (λK hK=>?_)
   refine It.aB (λc h=>by cases h) ?_
   have HK:=hid hK
   clear hK
   go_simp
   refine HK.out _ _ (.inr hS1) ?_
   clear HK
   (try simp only[Act.put,aW,aV,aU,aT,aS,aR])
   refine It.aD (i:=10) (by kernel_rfl) rfl rfl (λK hK=>?_)
   refine It.aB (λc h=>by cases h) ?_
   have HK:=hid hK
   clear hK
   have q1:=hS1.2.1
   have zz:=aC kc 0
   clear hS hS1
   go_simp
   refine HK.out _ _ (.inl rfl) ?_
   clear HK
   (try simp only[Act.put,aW,aV,aU,aT,aS,aR])
   refine It.bQ (by kernel_rfl) ?_ _
   have hloc:∀k,(Value.slice o8 (i+1) c8).ownBlock=some k->w.heap.size+5<=k:=by
    intro k e
    rcases hk with e2|e2
    ·rw[e2] at e;exact H3.out k e
    ·rw[e2] at e;have:=Option.some.inj e;rw[bO] at this;have:Wb.drew.heap.size=Wb.heap.size:=rfl;omega
   have bx2:=aM (c:=[.slice o9 i c9,.int .i64 0,.int .i64 0,.int .i64 0,.int .i64 0,.int .i64 0,.int .i64 0]) kc 0 (.slice o8 (i+1) c8)
   have mE:It.bL (λk=>(Value.slice o9 i c9).ownBlock=some k\/k=w.heap.size) Wb (w1.setCell ⟨w.heap.size,0,none⟩ (.slice o8 (i+1) c8)):=(hU.mono (λk e=>.inl e)).setCell (p:=⟨w.heap.size,0,none⟩) (.inl (.inr rfl)) _
   have kp:∀k,k<Wb.heap.size->k≠w.heap.size->k<w.heap.size+5->(w1.setCell ⟨w.heap.size,0,none⟩ (.slice o8 (i+1) c8)).heap[k]? = Wb.heap[k]?:=λk h1 h2 h3=>mE.block k h1 (by
    rintro(e|e)
    ·exact ne k h3 e
    ·exact h2 e)
   refine⟨⟨kp _ (by omega) (by omega) (by omega),kp _ (by omega) (by omega) (by omega)⟩,λk h1 h2=>mE.block k h1 (λe=>h2 ((H4.out k).2 (e.elim (λe=>.inr e) (λe=>.inl e)))),(λk=>k=w.heap.size\/(Value.slice o8 (i+1) c8).ownBlock=some k),?_⟩
   refine⟨⟨mE.os.trans BB.out.q.bf.os,mE.tape.trans BB.out.q.bf.tape,mE.output.trans BB.out.q.bf.output,aH BB.out.q.bf.size mE.size,λk hk=>(kp k (by omega) (by omega) (by omega)).trans (BB.out.q.bf.block k hk)⟩,aH BB.out.q.sz mE.size,(kp _ (by omega) (by omega) (by omega)).trans BB.out.q.cv,(kp _ (by omega) (by omega) (by omega)).trans BB.out.q.src,?_,_,bx2,?_,hloc,λk=>Iff.rfl⟩
   ·intro z hz
    rw[List.take_succ_eq_append_getElem hil,List.mem_append] at hz
    rcases hz with hz|hz
    ·exact BB.out.q.ok z hz
    ·simp at hz
     rw[hz,hy',hc]
   ·rw[vk Ys i hil,hy']
    exact bD ho2 (λk e=>Below.heap_setCell _ _ _ _ (by have:=hloc k e;show k≠w.heap.size;omega))
  ·have e2:=aA h1
   have k1:Wb.cell? ⟨w.heap.size,1,none⟩=some (.int .i64 0):=e2 1
   have k2:Wb.cell? ⟨w.heap.size,2,none⟩=some (.int .i64 0):=e2 2
   have g2:=aC h1
   have n1:¬W.heap.size+1=w.heap.size:=by omega
   have n2:¬W.heap.size=w.heap.size:=by omega
   have lW:W.heap.size<Wb.heap.size:=(bY.1 B.tok).1
   have lc:=B.q.sz
   have lb:=B.big
   clear e2 h1 h2 h3 h4 c5 c6 B hit q0 hY hm ht cv
   gi_wp2_with (simp only[Oper.semAt];go_simp)
   have u3:It.bL (λk=>k=w.heap.size) Wb ((Wb.setCell ⟨w.heap.size,1,none⟩ (.int .i64 y.c)).setCell ⟨w.heap.size,2,none⟩ (.int .i64 y.f)):=((It.bL.refl (λk=>k=w.heap.size) Wb).setCell (p:=⟨w.heap.size,1,none⟩) (.inl rfl) _).setCell (p:=⟨w.heap.size,2,none⟩) (.inl rfl) _
   have b1:=aM (c:=[.slice o9 i c9,.int .i64 0,.int .i64 0,.int .i64 0,.int .i64 0,.int .i64 0,.int .i64 0]) H1.out 1 (.int .i64 y.c)
   have b3:=aM (c:=[.slice o9 i c9,.int .i64 y.c,.int .i64 0,.int .i64 0,.int .i64 0,.int .i64 0,.int .i64 0]) b1 2 (.int .i64 y.f)
   have X:Py w Ys (.exit 0) ((Wb.setCell ⟨w.heap.size,1,none⟩ (.int .i64 y.c)).setCell ⟨w.heap.size,2,none⟩ (.int .i64 y.f)):=by
    refine⟨rfl,⟨u3.os.trans BB.out.q.bf.os,u3.tape.trans BB.out.q.bf.tape,u3.output.trans BB.out.q.bf.output,aH BB.out.q.bf.size u3.size,λk hk=>(u3.block k (by omega) (by omega)).trans (BB.out.q.bf.block k hk)⟩,aH BB.out.q.sz u3.size,(u3.block _ (by omega) (by omega)).trans BB.out.q.cv,i,_,y,?_,hc,BB.out.q.ok,b3,bD H2.out (λk e=>u3.block k (H2.out.lt k e).2 (by have:=H3.out k e;omega)),H3.out⟩
    rw[eU hil,hy']
   exact⟨⟨u3.block _ (by omega) (by omega),u3.block _ (by omega) (by omega)⟩,X⟩
 case done=>
  intro D W q hD
  rw[List.length_map] at q
  have ccv:W.cell? ⟨w.heap.size+1,0,none⟩=some (ptr w.heap.size):=aA q.cv 0
  rw[z0]
  rw[z0] at hD
  have QQ:=hid q
  have HD:=hid hD
  clear hit q0 hY hm ht cv hlen q hD
  go_wp2
  refine⟨by simp,.inl ⟨_,_,rfl,run_takeDeferred HD.out,?_⟩⟩
  have u3:It.bL (λk=>k=w.heap.size+3) W (W.putObj (w.heap.size+3) (.deferred none)):=It.kY (S:=λk=>k=w.heap.size+3) rfl _
  have q3:=QQ.out.RD u3
  exact⟨_,results_tmp rfl _ _ _,rfl,q3.bf,.inl ⟨D,q3⟩⟩
 case stop=>
  intro c W q hD
  obtain rfl:=q.code
  have ccv:W.cell? ⟨w.heap.size+1,0,none⟩=some (ptr w.heap.size):=aA q.cv 0
  rw[z0]
  rw[z0] at hD
  have QQ:=hid q
  have HD:=hid hD
  clear hit q0 hY hm ht cv hlen q hD
  go_wp2
  refine⟨by simp,.inl ⟨_,_,rfl,run_takeDeferred HD.out,?_⟩⟩
  have u3:It.bL (λk=>k=w.heap.size+3) W (W.putObj (w.heap.size+3) (.deferred none)):=It.kY (S:=λk=>k=w.heap.size+3) rfl _
  have q3:=QQ.out.RD u3
  exact⟨_,results_tmp rfl _ _ _,rfl,q3.bf,.inr q3⟩
theorem M5(Ys:List Yd)(h:∀z ∈ Ys,z.c=0):good Ys=Ys:=by
 induction Ys with
 | nil=>rfl
 | cons y l ih=>
  unfold good at *
  rw[gy (by simp[h y (by simp)]),ih (λz hz=>h z (by simp[hz]))]
theorem JR(Ys:List Yd):∀ (i:Nat) (y:Yd),(∀z ∈ Ys.take i,z.c=0)->Ys[i]? = some y->¬y.c=0->good Ys=Ys.take i:=by
 induction Ys with
 | nil=>intro i y _ h;simp at h
 | cons x l ih=>
  intro i y h1 h2 h3
  cases i with
  | zero=>
   simp at h2
   subst h2
   unfold good
   rw[List.takeWhile_cons_of_neg (by simp[h3])]
   rfl
  | succ i=>
   simp at h2
   have hx:=h1 x (by simp)
   have:=ih i y (λz hz=>h1 z (by simp[hz])) h2 h3
   unfold good at *
   rw[gy (by simp[hx]),this]
   rfl
theorem uM(s:ByteArray)(hs:s.size<=1000000)(w:World)(ht:Tabs w)(hm:MarksIn w) :
  Calls Tryz.prog 18 #[.string s] w λe w'=>e=.returned (ptr w.heap.size)/\Below w.heap.size w w'/\∃v,Cv w' w.heap.size (gU s.data.toList) v ⟨gU s.data.toList,0⟩:=by
 have hl:(gU s.data.toList).length<=1000001:=by
  have:=rH s.data.toList
  rw[size_list] at this
  omega
 refine(DV s (gU s.data.toList) hl (λsb=>?_) w ht hm).mono ?_
 ·rw[<- BZ]
  exact yK s hs sb
 ·rintro e w' ⟨he,hB,h⟩
  refine⟨he,hB,?_⟩
  generalize gU s.data.toList=Ys at *
  rcases h with⟨D,q⟩|q
  ·obtain⟨v,h1,h2,h3,_⟩:=q.row
   have hok:=q.ok
   rw[List.take_of_length_le (aL _)] at hok h2
   have hg:=M5 Ys hok
   have hb:bad Ys=(0,0):=by
    unfold bad
    rw[hg]
    simp
   refine⟨v,0,(0,0),?_,?_,?_,by simp,dQ _,by simp,by simp,by omega⟩
   ·rw[hb]
    exact h1
   ·rw[hg]
    exact iG h2 (λ_ _=>dQ _)
   ·intro k e
    have:=h3 k e
    omega
  ·obtain⟨i,v,y,h1,h2,h3,h4,h5,h6⟩:=q.bad
   have hg:=JR Ys i y h3 h1 h2
   have hi:i<Ys.length:=(jl.1 h1).1
   have hb:bad Ys=(y.c,y.f):=by
    unfold bad
    rw[hg,List.length_take,Nat.min_eq_left (by omega),List.drop_eq_getElem_cons hi]
    have:Ys[i]=y:=(jl.1 h1).2
    rw[this]
   refine⟨v,0,(0,0),?_,?_,?_,by simp,dQ _,by simp,by simp,by omega⟩
   ·rw[hb]
    exact h4
   ·rw[hg,List.length_take,Nat.min_eq_left (by omega)]
    exact iG h5 (λ_ _=>dQ _)
   ·intro k e
    have:=h6 k e
    omega
end Go.Proofs.YtgchnkgolclmgaaGreatDoor.W.Tr

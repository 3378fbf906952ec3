import Derived.Test.YtjplieobnknnpaaGreatDoorJU
import Derived.Test.YtjplieobnknnpaaGreatDoorJV
import Derived.Test.YtjplieobnknnpaaGreatDoorJG
import Derived.Test.YtjplieobnknnpaaGreatDoorJR
open List renaming getElem?_eq_getElem → z8z, getD_eq_getElem?_getD → z10z, setIfInBounds_toArray → z11z, takeWhile_cons_of_pos → z12z, getElem?_eq_some_iff → z13z
open Array renaming getElem?_eq_some_iff → z5z
open Nat renaming le_trans → z0z, le_refl → z1z, zero_le → z7z
open Go.World renaming alloc_heap_new → z3z, size_alloc → z4z, putObj_heap_other → z9z
open Go.RowKit.Below renaming refl → z2z, heap_alloc → z6z
open List renaming getElem_toArray → zx1, getElem_cons_zero → zx2, getElem_cons_succ → zx3, setIfInBounds_toArray → zx4, set_cons_zero → zx5, set_cons_succ → zx6
set_option maxRecDepth 1000000
set_option maxHeartbeats 8000000
namespace Go.Proofs.YtjplieobnknnpaaGreatDoor.W.Tr
open Go.ChangeShapes Go.WideShapes Go.RowKit Go.Shelf
set_option linter.unusedVariables false
theorem EC(g:Nat)(nt:Nt):AX g nt 0:=λW cb Ys v s r h hp=>(Fa hp).elim
theorem YD(g:Nat)(a:Value)(nt:Nt):JB g a nt 0:=λW cb Ys v s r h hp=>(Fa hp).elim
theorem Xm(g:Nat)(a:Value)(nt:Nt):Jr g a nt 0:=λW cb Ys v s r h hp=>(Fa hp).elim
theorem zS(g:Nat):OV g 0:=λW0 W cb Ys v s b nd ks r hl h hp=>(Fa hp).elim
structure aR (n:Nat):Prop where
 ex:AX 170 .ex n
 cj:AX 201 .cj n
 ng:AX 228 .ng n
 cm:AX 258 .cm n
 bn:∀k:Nat,k<=7->JB 293 (.int .i64 (k:Int)) (.bn k) n
 un:AX 341 .un n
 po:AX 365 .po n
 pr:AX 377 .pr n
 nm:AX 383 .nm n
 wd:AX 384 .wd n
 le:Jr 57 (.func (.func 170) #[] #[]) (.ls false) n
 lp:Jr 57 (.func (.func 58) #[] #[]) (.ls true) n
 pm:AX 58 .pm n
 gl:AX 34 .gl n
 fu:AX 35 .fu n
 bl:AX 59 .bl n
 st:AX 96 .st n
 lt:AX 134 .lt n
 iF:AX 135 .iF n
 wh:AX 136 .wh n
 fr:AX 137 .fr n
 lb:AX 142 .lb n
 jm:∀k:Int,JB 138 (.int .i64 k) (.jm k) n
 rt:AX 139 .rt n
 ou:AX 140 .ou n
 pl:AX 143 .pl n
 asg:OV 171 n
theorem dZ:∀n,aR n:=by
 intro n
 induction n using Nat.strongRecOn with
 | _ n ih=>
  match n,ih with
  | 0,_=>exact⟨EC _ _,EC _ _,EC _ _,EC _ _,λ_ _=>YD _ _ _,EC _ _,EC _ _,EC _ _,EC _ _,EC _ _,Xm _ _ _,Xm _ _ _,EC _ _,EC _ _,EC _ _,EC _ _,EC _ _,EC _ _,EC _ _,EC _ _,EC _ _,EC _ _,λ_=>YD _ _ _,EC _ _,EC _ _,EC _ _,zS _⟩
  | n+1,ih=>
   have p:∀m,m<=n->aR m:=λm hm=>ih m (by omega)
   have q:=p n (z1z _)
   exact {
    ex:=oU n (λm hm=>(p m hm).cj)
    cj:=mG n (λm hm=>(p m hm).ng)
    ng:=nW n q.ng q.cm
    cm:=gT n (q.bn 1 (by omega))
    bn:=λk hk=>ACJ n k hk q.un (λhk m hm=>by have:=(p m hm).bn (k+1) (by omega);simpa using this)
    un:=kH n q.un q.po
    po:=je n q.pr (λm hm=>(p m hm).ex)
    pr:=pX n q.nm q.wd q.ex
    nm:=Po n q.le
    wd:=ABj n
    le:=AA3 n (λm hm=>(p m hm).ex)
    lp:=ACk n (λm hm=>(p m hm).pm)
    pm:=ji n
    gl:=wI n
    fu:=ACa n q.lp q.bl
    bl:=AA6 n (λm hm=>(p m hm).st)
    st:=ACv n q.lt q.iF q.wh q.fr (q.jm 13) (q.jm 14) q.rt q.ou q.lb q.pl
    lt:=jD n q.ex
    iF:=ACc n q.ex q.bl q.iF
    wh:=uL n q.ex q.bl
    fr:=xY n q.ex q.bl
    lb:=AB2 n q.fr q.wh
    jm:=λk=>ABc n k
    rt:=mJ n q.ex
    ou:=ACZ n q.ex
    pl:=xP n q.ex q.asg
    asg:=iB n q.ex }
theorem aF(n:Nat):AX 21 (.pg .nil) n:=mM n (λm _=>(dZ m).gl) (λm _=>(dZ m).fu)
set_option linter.unusedSimpArgs false
structure Ij (w:World) (s:ByteArray) (Ys:List Yd) (i:Nat) (D:Nat->Prop) (W:World):Prop where
 bel:Below w.heap.size w W
 sz:w.heap.size+3<=W.heap.size
 cv:W.heap[w.heap.size+1]? = some (.cells #[ptr w.heap.size] 51 (0,0))
 src:W.heap[w.heap.size+2]? = some (.cells #[.string s] 9 (0,0))
 ok:∀y ∈ Ys.take i,y.c=0
 row:∃v,W.heap[w.heap.size]? = some (.cells #[v,.int .i64 0,.int .i64 0,.int .i64 0,.int .i64 0,.int .i64 0,.int .i64 0] 55 (0,0))/\W.ownsRow w.heap.size 71 5 v i (IB (Ys.take i))/\(∀k,v.ownBlock=some k->w.heap.size+5<=k)/\∀k,D k↔k=w.heap.size\/v.ownBlock=some k
structure Jt (w:World) (Ys:List Yd) (c:Code) (W:World):Prop where
 code:c=.exit 0
 bel:Below w.heap.size w W
 sz:w.heap.size+3<=W.heap.size
 cv:W.heap[w.heap.size+1]? = some (.cells #[ptr w.heap.size] 51 (0,0))
 bad:∃i v y,Ys[i]? = some y/\¬y.c=0/\(∀z ∈ Ys.take i,z.c=0)/\W.heap[w.heap.size]? = some (.cells #[v,.int .i64 y.c,.int .i64 y.f,.int .i64 0,.int .i64 0,.int .i64 0,.int .i64 0] 55 (0,0))/\W.ownsRow w.heap.size 71 5 v i (IB (Ys.take i))/\(∀k,v.ownBlock=some k->w.heap.size+5<=k)
section
variable {w W W':World} {s:ByteArray} {Ys:List Yd} {i:Nat} {D:Nat->Prop}
theorem Ij.upd(q:Ij w s Ys i D W)(hu:It.AL (λk=>k=w.heap.size+4) W W'):Ij w s Ys i D W':=by
 obtain⟨v,h1,h2,h3,h4⟩:=q.row
 have z:=q.sz
 have kp:∀k o,k<w.heap.size+3->W.heap[k]? = some o->W'.heap[k]? = some o:=λk o hk e=>(hu.block k (by omega) (by omega)).trans e
 refine⟨⟨hu.os.trans q.bel.os,hu.tape.trans q.bel.tape,hu.output.trans q.bel.output,z0z q.bel.size hu.size,λk hk=>(hu.block k (by omega) (by omega)).trans (q.bel.block k hk)⟩,z0z z hu.size,kp _ _ (by omega) q.cv,kp _ _ (by omega) q.src,q.ok,v,kp _ _ (by omega) h1,Bq h2 (λk e=>hu.block k (h2.lt k e).2 (by have:=h3 k e;omega)),h3,h4⟩
theorem Jt.upd{c:Code}(q:Jt w Ys c W)(hu:It.AL (λk=>k=w.heap.size+4) W W'):Jt w Ys c W':=by
 have z:=q.sz
 have kp:∀k o,k<w.heap.size+3->W.heap[k]? = some o->W'.heap[k]? = some o:=λk o hk e=>(hu.block k (by omega) (by omega)).trans e
 obtain⟨i,v,y,h1,h2,h3,h4,h5,h6⟩:=q.bad
 exact⟨q.code,⟨hu.os.trans q.bel.os,hu.tape.trans q.bel.tape,hu.output.trans q.bel.output,z0z q.bel.size hu.size,λk hk=>(hu.block k (by omega) (by omega)).trans (q.bel.block k hk)⟩,z0z z hu.size,kp _ _ (by omega) q.cv,i,v,y,h1,h2,h3,kp _ _ (by omega) h4,Bq h5 (λk e=>hu.block k (h5.lt k e).2 (by have:=h6 k e;omega)),h6⟩
theorem Ij.upd2(q:Ij w s Ys i D W)(hu:It.AL (λk=>k=w.heap.size+3) W W'):Ij w s Ys i D W':=by
 obtain⟨v,h1,h2,h3,h4⟩:=q.row
 have z:=q.sz
 have kp:∀k o,k<w.heap.size+3->W.heap[k]? = some o->W'.heap[k]? = some o:=λk o hk e=>(hu.block k (by omega) (by omega)).trans e
 refine⟨⟨hu.os.trans q.bel.os,hu.tape.trans q.bel.tape,hu.output.trans q.bel.output,z0z q.bel.size hu.size,λk hk=>(hu.block k (by omega) (by omega)).trans (q.bel.block k hk)⟩,z0z z hu.size,kp _ _ (by omega) q.cv,kp _ _ (by omega) q.src,q.ok,v,kp _ _ (by omega) h1,Bq h2 (λk e=>hu.block k (h2.lt k e).2 (by have:=h3 k e;omega)),h3,h4⟩
theorem Jt.upd2{c:Code}(q:Jt w Ys c W)(hu:It.AL (λk=>k=w.heap.size+3) W W'):Jt w Ys c W':=by
 have z:=q.sz
 have kp:∀k o,k<w.heap.size+3->W.heap[k]? = some o->W'.heap[k]? = some o:=λk o hk e=>(hu.block k (by omega) (by omega)).trans e
 obtain⟨i,v,y,h1,h2,h3,h4,h5,h6⟩:=q.bad
 exact⟨q.code,⟨hu.os.trans q.bel.os,hu.tape.trans q.bel.tape,hu.output.trans q.bel.output,z0z q.bel.size hu.size,λk hk=>(hu.block k (by omega) (by omega)).trans (q.bel.block k hk)⟩,z0z z hu.size,kp _ _ (by omega) q.cv,i,v,y,h1,h2,h3,kp _ _ (by omega) h4,Bq h5 (λk e=>hu.block k (h5.lt k e).2 (by have:=h6 k e;omega)),h6⟩
end
def cuA(a:Act)(y:Yd)(W:World):Act:={ tmps:=(((a.tmps.setIfInBounds 10 (tv y.t y.a)).setIfInBounds 11 (.agg #[.int .i64 y.c,.int .i64 y.f])).setIfInBounds 4 (.pointer (some ⟨W.heap.size,0,none⟩))).setIfInBounds 5 (.pointer (some ⟨W.heap.size+1,0,none⟩)),defers:=[] }
structure CuB (w:World) (s:ByteArray) (Ys:List Yd) (i:Nat) (D:Nat->Prop) (y:Yd) (W Wb:World):Prop where
 q:Ij w s Ys i D Wb
 tok:Wb.heap[W.heap.size]? = some (.cells (Cn y) 71 (0,0))
 flt:Wb.heap[W.heap.size+1]? = some (.cells #[.int .i64 y.c,.int .i64 y.f] 26 (0,0))
 big:w.heap.size+5<=W.heap.size
theorem ACX{w W:World}{s:ByteArray}{Ys:List Yd}{i:Nat}{D:Nat->Prop}{y:Yd}(q:Ij w s Ys i D W)(h6:w.heap.size+5<=W.heap.size)(o:Obj):CuB w s Ys i D y W ((JZ y W).putObj (w.heap.size+4) o):=by
 have hB:Below W.heap.size W (JZ y W):=((z2z _ W).alloc (z1z _) _).alloc (by simp) _
 have q1:Ij w s Ys i D (JZ y W):=q.upd (It.AL.of_below hB)
 refine⟨q1.upd (It.Ip (S:=λk=>k=w.heap.size+4) rfl o),?_,?_,h6⟩
 ·rw[z9z (by omega)]
  exact(z6z _ _ _ (by simp)).trans (z3z W _)
 ·rw[z9z (by omega)]
  have:=z3z (W.alloc (.cells (Cn y) 71)) (.cells #[.int .i64 y.c,.int .i64 y.f] 26)
  rwa [z4z] at this
theorem ABV(w:World)(s:ByteArray)(Ys:List Yd):Ij w s Ys 0 (λk=>k=w.heap.size) (((w.alloc (.cells #[.slice none 0 0,.int .i64 0,.int .i64 0,.int .i64 0,.int .i64 0,.int .i64 0,.int .i64 0] 55)).alloc (.cells #[ptr w.heap.size] 51)).alloc (.cells #[.string s] 9)):=by
 have n1:=z3z w (.cells #[.slice none 0 0,.int .i64 0,.int .i64 0,.int .i64 0,.int .i64 0,.int .i64 0,.int .i64 0] 55)
 have n2:=z3z (w.alloc (.cells #[.slice none 0 0,.int .i64 0,.int .i64 0,.int .i64 0,.int .i64 0,.int .i64 0,.int .i64 0] 55)) (.cells #[ptr w.heap.size] 51)
 have n3:=z3z ((w.alloc (.cells #[.slice none 0 0,.int .i64 0,.int .i64 0,.int .i64 0,.int .i64 0,.int .i64 0,.int .i64 0] 55)).alloc (.cells #[ptr w.heap.size] 51)) (.cells #[.string s] 9)
 simp only[z4z] at n2 n3
 refine⟨(((z2z _ w).alloc (z1z _) _).alloc (by simp) _).alloc (by simp only[z4z];omega) _,by simp,?_,n3,by simp,.slice none 0 0,?_,World.ownsRow_nil _ _ _ _,by simp[Value.ownBlock],by simp[Value.ownBlock]⟩
 ·exact(z6z _ _ _ (by simp)).trans n2
 ·exact(z6z _ _ _ (by simp only[z4z];omega)).trans ((z6z _ _ _ (by simp)).trans n1)
theorem qF(s:ByteArray)(Ys:List Yd)(hlen:Ys.length<=1000001)(hit:∀sb,Jc 48 #[.pointer (some ⟨sb,0,none⟩)] (Ys.map yy) (λW=>W.cell? ⟨sb,0,none⟩=some (.string s)/\Tabs W/\MarksIn W))(w:World)(ht:Tabs w)(hm:MarksIn w) :
  Calls Tryz.prog 19 #[.string s] w λe w'=>e=.returned (ptr w.heap.size)/\Below w.heap.size w w'/\((∃D,Ij w s Ys Ys.length D w')\/Jt w Ys (.exit 0) w'):=by
 have cv:=Yl
 refine(callsIn_wide (n:=9)).1 ?_
 refine callsIn_of_wp_marks Tryz.func19 rfl trivial ?_ rfl
 refine wpIn_wide.2 ?_
 simp only[Tryz.ntmps19,List.size_toArray,List.length_cons,List.length_nil,Nat.reduceAdd,Nat.reduceSub,Array.replicate_succ,Array.replicate_zero,List.push_toArray,List.append_toArray,List.nil_append,List.cons_append]
 go_wp2_with (go_at_call 30;(with_reducible refine(cv _ _).mono ?_);rintro e w8 ⟨rfl,hw8⟩;(have hw':=hw8.symm);subst hw';clear hw8)
 have q0:=ABV w s Ys
 have z0:(((w.alloc (.cells #[.slice none 0 0,.int .i64 0,.int .i64 0,.int .i64 0,.int .i64 0,.int .i64 0,.int .i64 0] 55)).alloc (.cells #[ptr w.heap.size] 51)).alloc (.cells #[.string s] 9)).heap.size=w.heap.size+3:=by simp
 generalize World.alloc (World.alloc (World.alloc w _) _) _=W0 at *
 have hY:∀ (i:Nat) (hi:i<(Ys.map yy).length),(Ys.map yy)[i]=yy (Ys.getD i JJ):=λi hi=>by
  rw[List.getElem_map]
  congr 1
  rw[z10z,z8z (by simpa using hi)]
  rfl
 refine XG (hit (w.heap.size+1+1)) YH rfl (Ij w s Ys) (Jt w Ys) ?hL ?hI ?hIx (λk=>k=w.heap.size) q0 (λi W=>cuA { tmps:=#[.string s,undef,.pointer none,.pointer (some ⟨w.heap.size+1,0,none⟩),undef,undef,.agg #[.slice none 0 0,.int .i64 0,.int .i64 0,.int .i64 0,.int .i64 0,.int .i64 0,.int .i64 0],.pointer (some ⟨w.heap.size,0,none⟩),.string s,.func (.func 48) #[] #[.pointer (some ⟨w.heap.size+1+1,0,none⟩)],undef,undef,undef,undef,undef,undef,undef,undef,undef,undef,undef,undef,undef,undef,undef,undef,undef,undef,undef,undef],defers:=[] } (Ys.getD i JJ) W) (λi W=>JZ (Ys.getD i JJ) W) ?hN ?hsz ?assign ?body ?done ?stop
 case hL=>
  intro i D W q
  refine⟨⟨cell_of_row _ _ 0 _ _ _ q.src,ht.below q.bel,hm.below q.bel⟩,?_⟩
  obtain⟨v,h1,h2,h3,h4⟩:=q.row
  intro k hk
  rcases(h4 k).1 hk with rfl|e
  ·exact(z5z.1 h1).1
  ·exact(h2.lt k e).2
 case hI=>
  intro i D W W' q hu
  rw[z0] at hu
  exact q.upd hu
 case hIx=>
  intro c W W' q hu
  rw[z0] at hu
  exact q.upd hu
 case hN=>intro i W;exact((z2z _ W).alloc (z1z _) _).alloc (by simp) _
 case hsz=>intro i hi;rw[hY i hi];rfl
 case assign=>
  intro L i hi W K hK
  rw[hY i hi]
  generalize Ys.getD i JJ=y at *
  obtain⟨t,ya,yc,yf⟩:=y
  simp only[yy,yv,tv,Qc,z11z,List.set_cons_succ,List.set_cons_zero]
  gi_wp2_with (simp only[Oper.semAt];go_simp)
  exact hK
 case body=>
  intro L i hi D W o hLe q hs
  rw[z0] at hLe hs
  subst hLe
  obtain⟨y,hy⟩:∃y,Ys.getD i JJ=y:=⟨_,rfl⟩
  rw[hy]
  have hDl:∀k,D k->k<W.heap.size:=by
   obtain⟨v,h1,h2,h3,h4⟩:=q.row
   intro k hk
   rcases(h4 k).1 hk with rfl|e
   ·exact(z5z.1 h1).1
   ·exact(h2.lt k e).2
  have B:=ACX (y:=y) q hs o
  rw[z0]
  generalize hWb:(JZ y W).putObj (w.heap.size+3+1) o=Wb at *
  clear q
  obtain⟨v,h1,h2,h3,h4⟩:=B.q.row
  obtain⟨o9,c9,rfl⟩:=Ak h2
  have c5:=AO B.tok
  have c6:=AO B.flt
  have d0:Wb.cell? ⟨W.heap.size+1,0,none⟩=some (.int .i64 y.c):=c6 0
  have d1:Wb.cell? ⟨W.heap.size+1,1,none⟩=some (.int .i64 y.f):=c6 1
  have cc:Wb.cell? ⟨w.heap.size+1,0,none⟩=some (ptr w.heap.size):=AO B.q.cv 0
  have b4:Wb.cell? ⟨w.heap.size,0,none⟩=some (.slice o9 i c9):=AO h1 0
  have hil:i<Ys.length:=by simpa using hi
  have hy':Ys[i]=y:=by
   rw[z10z,z8z hil] at hy
   exact hy
  have BB:=hid B
  have H1:=hid h1
  have H2:=hid h2
  have H3:=hid h3
  have H4:=hid h4
  simp only[cuA,z11z,List.set_cons_succ,List.set_cons_zero]
  by_cases hc:y.c=0
  ·have hbz:w.heap.size+5<=Wb.heap.size:=by have:=B.big;have:=(z5z.1 B.tok).1;omega
   have t0:Wb.cell? ⟨W.heap.size,0,none⟩=some (.int .i64 y.t.kind):=c5 0
   have t1:Wb.cell? ⟨W.heap.size,1,none⟩=some (.int .i64 y.a):=c5 1
   have t2:Wb.cell? ⟨W.heap.size,2,none⟩=some (.string y.t.text):=c5 2
   have t3:Wb.cell? ⟨W.heap.size,3,none⟩=some (.int .i64 y.t.int):=c5 3
   have t4:Wb.cell? ⟨W.heap.size,4,none⟩=some (.int .u64 y.t.bits):=c5 4
   rw[hc] at d0
   clear h1 h2 h3 h4 c5 c6 B hit q0 hY hm ht cv
   gi_wp2_with (simp only[Oper.semAt];go_simp)
   have hS:Wb.drew.cell? ⟨w.heap.size+1,0,none⟩=some (ptr w.heap.size)/\Wb.drew.cell? ⟨w.heap.size,0,none⟩=some (.slice o9 i c9)/\Wb.drew.cell? ⟨W.heap.size,0,none⟩=some (.int .i64 y.t.kind)/\Wb.drew.cell? ⟨W.heap.size,1,none⟩=some (.int .i64 y.a)/\Wb.drew.cell? ⟨W.heap.size,2,none⟩=some (.string y.t.text)/\Wb.drew.cell? ⟨W.heap.size,3,none⟩=some (.int .i64 y.t.int)/\Wb.drew.cell? ⟨W.heap.size,4,none⟩=some (.int .u64 y.t.bits):=⟨cc,b4,t0,t1,t2,t3,t4⟩
   refine It.YE (z:=10) (S:=(λw'=>w'.cell? ⟨w.heap.size+1,0,none⟩=some (ptr w.heap.size)/\w'.cell? ⟨w.heap.size,0,none⟩=some (.slice o9 i c9)/\w'.cell? ⟨W.heap.size,0,none⟩=some (.int .i64 y.t.kind)/\w'.cell? ⟨W.heap.size,1,none⟩=some (.int .i64 y.a)/\w'.cell? ⟨W.heap.size,2,none⟩=some (.string y.t.text)/\w'.cell? ⟨W.heap.size,3,none⟩=some (.int .i64 y.t.int)/\w'.cell? ⟨W.heap.size,4,none⟩=some (.int .u64 y.t.bits))) (by kernel_rfl) (by kernel_rfl) ?_
   iterate 6 ((refine It.nL 0 ?_ rfl (by kernel_rfl) (λ_ _ _ h=>h) (Or.inl ⟨by rfl,?_⟩) hS ?_);rotate_left;(focus (intro w' hSw;(obtain⟨s0,s1,s2,s3,s4,s5,s6⟩:=hSw);go_simp;(try with_reducible rfl)));(try simp only[Act.put,zx1,zx2,zx3,zx4,zx5,zx6]))
   obtain⟨v2,w1,hrun,ho2,hg,hnil,hk⟩:=dx Wb.drew 53 (.slice o9 i c9) i _ (Bq H2.out (λk e=>rfl)) (by show w.heap.size<=Wb.heap.size;omega) y (by omega)
   obtain⟨o8,c8,rfl⟩:=Ak ho2
   have hU1:It.AL (λk=>(Value.slice o9 i c9).ownBlock=some k) (Wb.drew.alloc (.cells (Cn y) 71)) w1:=(It.AL.refl _ _).grown hg (λk e=>.inl e)
   have hUd:It.AL (λk=>(Value.slice o9 i c9).ownBlock=some k) Wb (Wb.drew.alloc (.cells (Cn y) 71)):=It.AL.of_below ((z2z _ Wb).drew.alloc (z1z _) _)
   have hU:It.AL (λk=>(Value.slice o9 i c9).ownBlock=some k) Wb w1:=hUd.trans' hU1
   have ne:∀k,k<w.heap.size+5->¬ (Value.slice o9 i c9).ownBlock=some k:=λk hk e=>by have:=H3.out k e;omega
   have nw:¬ (Value.slice o9 i c9).ownBlock=some W.heap.size:=λe=>by have:=hDl _ ((H4.out _).2 (.inr e));omega
   have lW:W.heap.size<Wb.heap.size:=(z5z.1 BB.out.tok).1
   have lc:=BB.out.q.sz
   have kc:w1.heap[w.heap.size]? = some (.cells #[.slice o9 i c9,.int .i64 0,.int .i64 0,.int .i64 0,.int .i64 0,.int .i64 0,.int .i64 0] 55 (0,0)):=(hU.block _ (by omega) (ne _ (by omega))).trans H1.out
   have kv:w1.heap[w.heap.size+1]? = some (.cells #[ptr w.heap.size] 51 (0,0)):=(hU.block _ (by omega) (ne _ (by omega))).trans BB.out.q.cv
   have kt:w1.heap[W.heap.size]? = some (.cells (Cn y) 71 (0,0)):=(hU.block _ lW nw).trans BB.out.tok
   have hS1:w1.cell? ⟨w.heap.size+1,0,none⟩=some (ptr w.heap.size)/\w1.cell? ⟨w.heap.size,0,none⟩=some (.slice o9 i c9)/\w1.cell? ⟨W.heap.size,0,none⟩=some (.int .i64 y.t.kind)/\w1.cell? ⟨W.heap.size,1,none⟩=some (.int .i64 y.a)/\w1.cell? ⟨W.heap.size,2,none⟩=some (.string y.t.text)/\w1.cell? ⟨W.heap.size,3,none⟩=some (.int .i64 y.t.int)/\w1.cell? ⟨W.heap.size,4,none⟩=some (.int .u64 y.t.bits):=⟨AO kv 0,AO kc 0,AO kt 0,AO kt 1,AO kt 2,AO kt 3,AO kt 4⟩
   refine It.Aa (i:=6) (by kernel_rfl) rfl rfl (λK hK=>?_)
   refine It.AZ (λc h=>by cases h) ?_
   have HK:=hid hK
   clear hK
   go_simp
   have bd:Below Wb.heap.size Wb (Wb.drew.alloc (.cells (Cn y) 71)):=(z2z _ Wb).drew.alloc (z1z _) _
   refine HK.out _ _ (.inr ⟨AO (AY BB.out.q.cv bd) 0,AO (AY H1.out bd) 0,AO (AY BB.out.tok bd) 0,AO (AY BB.out.tok bd) 1,AO (AY BB.out.tok bd) 2,AO (AY BB.out.tok bd) 3,AO (AY BB.out.tok bd) 4⟩) ?_
   clear HK
   (try simp only[Act.put,zx1,zx2,zx3,zx4,zx5,zx6])
   unfold Cn at hrun
   refine It.Aa (i:=7) (by kernel_rfl) rfl rfl (λK hK=>?_)
   refine It.AZ (λc h=>by cases h) ?_
   refine Lib.wp_append_run _ (.tmp 23) (.tmp 25) 53 53 rfl _ _ rfl rfl _ _ hrun ?_
   refine hK _ _ (.inr hS1) ?_
   clear hK K hrun
   (try simp only[Act.put,zx1,zx2,zx3,zx4,zx5,zx6])
   refine It.Aa (i:=8) (by kernel_rfl) rfl rfl (λK hK=>?_)
   refine It.AZ (λc h=>by cases h) ?_
   have HK:=hid hK
   clear hK
   go_simp
   refine HK.out _ _ (.inr hS1) ?_
   clear HK
   (try simp only[Act.put,zx1,zx2,zx3,zx4,zx5,zx6])
   refine It.Aa (i:=9) (by kernel_rfl) rfl rfl (λK hK=>?_)
   refine It.AZ (λc h=>by cases h) ?_
   have HK:=hid hK
   clear hK
   go_simp
   refine HK.out _ _ (.inr hS1) ?_
   clear HK
   (try simp only[Act.put,zx1,zx2,zx3,zx4,zx5,zx6])
   refine It.Aa (i:=10) (by kernel_rfl) rfl rfl (λK hK=>?_)
   refine It.AZ (λc h=>by cases h) ?_
   have HK:=hid hK
   clear hK
   have q1:=hS1.2.1
   have zz:=Bj kc 0
   clear hS hS1
   go_simp
   refine HK.out _ _ (.inl rfl) ?_
   clear HK
   (try simp only[Act.put,zx1,zx2,zx3,zx4,zx5,zx6])
   refine It.EU (by kernel_rfl) ?_ _
   have hloc:∀k,(Value.slice o8 (i+1) c8).ownBlock=some k->w.heap.size+5<=k:=by
    intro k e
    rcases hk with e2|e2
    ·rw[e2] at e;exact H3.out k e
    ·rw[e2] at e;have:=Option.some.inj e;rw[z4z] at this;have:Wb.drew.heap.size=Wb.heap.size:=rfl;omega
   have bx2:=Bu (c:=[.slice o9 i c9,.int .i64 0,.int .i64 0,.int .i64 0,.int .i64 0,.int .i64 0,.int .i64 0]) kc 0 (.slice o8 (i+1) c8)
   have hU2:It.AL (λk=>(Value.slice o9 i c9).ownBlock=some k\/k=w.heap.size) Wb (w1.setCell ⟨w.heap.size,0,none⟩ (.slice o8 (i+1) c8)):=(hU.mono (λk e=>.inl e)).setCell (p:=⟨w.heap.size,0,none⟩) (.inl (.inr rfl)) _
   have kp:∀k,k<Wb.heap.size->k≠w.heap.size->k<w.heap.size+5->(w1.setCell ⟨w.heap.size,0,none⟩ (.slice o8 (i+1) c8)).heap[k]? = Wb.heap[k]?:=λk h1 h2 h3=>hU2.block k h1 (by
    rintro(e|e)
    ·exact ne k h3 e
    ·exact h2 e)
   refine⟨⟨kp _ (by omega) (by omega) (by omega),kp _ (by omega) (by omega) (by omega)⟩,λk h1 h2=>hU2.block k h1 (λe=>h2 ((H4.out k).2 (e.elim (λe=>.inr e) (λe=>.inl e)))),(λk=>k=w.heap.size\/(Value.slice o8 (i+1) c8).ownBlock=some k),?_⟩
   refine⟨⟨hU2.os.trans BB.out.q.bel.os,hU2.tape.trans BB.out.q.bel.tape,hU2.output.trans BB.out.q.bel.output,z0z BB.out.q.bel.size hU2.size,λk hk=>(kp k (by omega) (by omega) (by omega)).trans (BB.out.q.bel.block k hk)⟩,z0z BB.out.q.sz hU2.size,(kp _ (by omega) (by omega) (by omega)).trans BB.out.q.cv,(kp _ (by omega) (by omega) (by omega)).trans BB.out.q.src,?_,_,bx2,?_,hloc,λk=>Iff.rfl⟩
   ·intro z hz
    rw[List.take_succ_eq_append_getElem hil,List.mem_append] at hz
    rcases hz with hz|hz
    ·exact BB.out.q.ok z hz
    ·simp at hz
     rw[hz,hy',hc]
   ·rw[WU Ys i hil,hy']
    exact Bq ho2 (λk e=>Below.heap_setCell _ _ _ _ (by have:=hloc k e;show k≠w.heap.size;omega))
  ·have e2:=AO h1
   have k1:Wb.cell? ⟨w.heap.size,1,none⟩=some (.int .i64 0):=e2 1
   have k2:Wb.cell? ⟨w.heap.size,2,none⟩=some (.int .i64 0):=e2 2
   have g2:=Bj h1
   have n1:¬W.heap.size+1=w.heap.size:=by omega
   have n2:¬W.heap.size=w.heap.size:=by omega
   have lW:W.heap.size<Wb.heap.size:=(z5z.1 B.tok).1
   have lc:=B.q.sz
   have lb:=B.big
   clear e2 h1 h2 h3 h4 c5 c6 B hit q0 hY hm ht cv
   gi_wp2_with (simp only[Oper.semAt];go_simp)
   have u3:It.AL (λk=>k=w.heap.size) Wb ((Wb.setCell ⟨w.heap.size,1,none⟩ (.int .i64 y.c)).setCell ⟨w.heap.size,2,none⟩ (.int .i64 y.f)):=((It.AL.refl (λk=>k=w.heap.size) Wb).setCell (p:=⟨w.heap.size,1,none⟩) (.inl rfl) _).setCell (p:=⟨w.heap.size,2,none⟩) (.inl rfl) _
   have b1:=Bu (c:=[.slice o9 i c9,.int .i64 0,.int .i64 0,.int .i64 0,.int .i64 0,.int .i64 0,.int .i64 0]) H1.out 1 (.int .i64 y.c)
   have b3:=Bu (c:=[.slice o9 i c9,.int .i64 y.c,.int .i64 0,.int .i64 0,.int .i64 0,.int .i64 0,.int .i64 0]) b1 2 (.int .i64 y.f)
   have X:Jt w Ys (.exit 0) ((Wb.setCell ⟨w.heap.size,1,none⟩ (.int .i64 y.c)).setCell ⟨w.heap.size,2,none⟩ (.int .i64 y.f)):=by
    refine⟨rfl,⟨u3.os.trans BB.out.q.bel.os,u3.tape.trans BB.out.q.bel.tape,u3.output.trans BB.out.q.bel.output,z0z BB.out.q.bel.size u3.size,λk hk=>(u3.block k (by omega) (by omega)).trans (BB.out.q.bel.block k hk)⟩,z0z BB.out.q.sz u3.size,(u3.block _ (by omega) (by omega)).trans BB.out.q.cv,i,_,y,?_,hc,BB.out.q.ok,b3,Bq H2.out (λk e=>u3.block k (H2.out.lt k e).2 (by have:=H3.out k e;omega)),H3.out⟩
    rw[z8z hil,hy']
   exact⟨⟨u3.block _ (by omega) (by omega),u3.block _ (by omega) (by omega)⟩,X⟩
 case done=>
  intro D W q hD
  rw[List.length_map] at q
  have ccv:W.cell? ⟨w.heap.size+1,0,none⟩=some (ptr w.heap.size):=AO q.cv 0
  rw[z0]
  rw[z0] at hD
  have QQ:=hid q
  have HD:=hid hD
  clear hit q0 hY hm ht cv hlen q hD
  go_wp2
  refine⟨by simp,.inl ⟨_,_,rfl,run_takeDeferred HD.out,?_⟩⟩
  have u3:It.AL (λk=>k=w.heap.size+3) W (W.putObj (w.heap.size+3) (.deferred none)):=It.Ip (S:=λk=>k=w.heap.size+3) rfl _
  have q3:=QQ.out.upd2 u3
  exact⟨_,results_tmp rfl _ _ _,rfl,q3.bel,.inl ⟨D,q3⟩⟩
 case stop=>
  intro c W q hD
  obtain rfl:=q.code
  have ccv:W.cell? ⟨w.heap.size+1,0,none⟩=some (ptr w.heap.size):=AO q.cv 0
  rw[z0]
  rw[z0] at hD
  have QQ:=hid q
  have HD:=hid hD
  clear hit q0 hY hm ht cv hlen q hD
  go_wp2
  refine⟨by simp,.inl ⟨_,_,rfl,run_takeDeferred HD.out,?_⟩⟩
  have u3:It.AL (λk=>k=w.heap.size+3) W (W.putObj (w.heap.size+3) (.deferred none)):=It.Ip (S:=λk=>k=w.heap.size+3) rfl _
  have q3:=QQ.out.upd2 u3
  exact⟨_,results_tmp rfl _ _ _,rfl,q3.bel,.inr q3⟩
theorem lU(Ys:List Yd)(h:∀z ∈ Ys,z.c=0):good Ys=Ys:=by
 induction Ys with
 | nil=>rfl
 | cons y l ih=>
  unfold good at *
  rw[z12z (by simp[h y (by simp)]),ih (λz hz=>h z (by simp[hz]))]
theorem jF(Ys:List Yd):∀ (i:Nat) (y:Yd),(∀z ∈ Ys.take i,z.c=0)->Ys[i]? = some y->¬y.c=0->good Ys=Ys.take i:=by
 induction Ys with
 | nil=>intro i y _ h;simp at h
 | cons x l ih=>
  intro i y h1 h2 h3
  cases i with
  | zero=>
   simp at h2
   subst h2
   unfold good
   rw[List.takeWhile_cons_of_neg (by simp[h3])]
   rfl
  | succ i=>
   simp at h2
   have hx:=h1 x (by simp)
   have:=ih i y (λz hz=>h1 z (by simp[hz])) h2 h3
   unfold good at *
   rw[z12z (by simp[hx]),this]
   rfl
theorem Zv(s:ByteArray)(hs:s.size<=1000000)(w:World)(ht:Tabs w)(hm:MarksIn w) :
  Calls Tryz.prog 19 #[.string s] w λe w'=>e=.returned (ptr w.heap.size)/\Below w.heap.size w w'/\∃v,Cv w' w.heap.size (Au s.data.toList) v ⟨Au s.data.toList,0⟩:=by
 have hl:(Au s.data.toList).length<=1000001:=by
  have:=Pp s.data.toList
  rw[Ao] at this
  omega
 refine(qF s (Au s.data.toList) hl (λsb=>?_) w ht hm).mono ?_
 ·rw[<- X7]
  exact Zl s hs sb
 ·rintro e w' ⟨he,hB,h⟩
  refine⟨he,hB,?_⟩
  generalize Au s.data.toList=Ys at *
  rcases h with⟨D,q⟩|q
  ·obtain⟨v,h1,h2,h3,_⟩:=q.row
   have hok:=q.ok
   rw[List.take_of_length_le (z1z _)] at hok h2
   have hg:=lU Ys hok
   have hb:bad Ys=(0,0):=by
    unfold bad
    rw[hg]
    simp
   refine⟨v,0,(0,0),?_,?_,?_,by simp,z7z _,by simp,by simp,by omega⟩
   ·rw[hb]
    exact h1
   ·rw[hg]
    exact Lp h2 (λ_ _=>z7z _)
   ·intro k e
    have:=h3 k e
    omega
  ·obtain⟨i,v,y,h1,h2,h3,h4,h5,h6⟩:=q.bad
   have hg:=jF Ys i y h3 h1 h2
   have hi:i<Ys.length:=(z13z.1 h1).1
   have hb:bad Ys=(y.c,y.f):=by
    unfold bad
    rw[hg,List.length_take,Nat.min_eq_left (by omega),List.drop_eq_getElem_cons hi]
    have:Ys[i]=y:=(z13z.1 h1).2
    rw[this]
   refine⟨v,0,(0,0),?_,?_,?_,by simp,z7z _,by simp,by simp,by omega⟩
   ·rw[hb]
    exact h4
   ·rw[hg,List.length_take,Nat.min_eq_left (by omega)]
    exact Lp h5 (λ_ _=>z7z _)
   ·intro k e
    have:=h6 k e
    omega
end Go.Proofs.YtjplieobnknnpaaGreatDoor.W.Tr

import Derived.Test.YtgchnkgolclmgaaGreatDoorJW
import Derived.Defers
import Derived.Recover
import Derived.Laws.Pointers
import Derived.Test.YtgchnkgolclmgaaGreatDoorRwFJ
open List renaming getElem?_eq_none → dQ
open Array renaming replicate_succ → bO, replicate_zero → bY
open Go.World renaming size_alloc → aL, alloc_heap_new → aY, putObj_heap_other → dI
open Go.RowKit.Below renaming heap_setCell → ay
open And renaming intro → aH
open Go.Proofs.Tryz
set_option maxRecDepth 1000000
set_option maxHeartbeats 8000000
namespace Go.Proofs.YtgchnkgolclmgaaGreatDoor.W.Tr
open Go.ChangeShapes Go.WideShapes Go.RowKit Go.Shelf
set_option linter.unusedVariables false
set_option linter.unusedSimpArgs false
theorem FT(a b c:Value)(w:World) :
  CallsD prog 19 #[a,b,c] .returning w λe u' w'=>e=.returned (.tuple #[])/\u'=.returning/\w'=w:=by
 refine callsD_of_wpS func19 rfl λc₀ cs hu=>?_
 apply wpS_seq
 apply wpS_region
 simp[wpOpsS,go_sem,recoverD,hu,ntmps19,Exit.thenS]
 refine wpS_cond (t:=false) (by simp[Act.eval,Array.replicate]) ?_
 simp only[Bool.false_eq_true,if_false]
 refine wpS_of_wp (wp_skip ?_)
 cases c₀
 simp_all [bodyPostS,results,results19]
theorem Jd(p cb lb fb:Nat)(l0 g0 g1:Value)(ff:jv)(w:World)(hp:w.cell? ⟨p,0,none⟩=some (ptr cb))(h5:w.cell? ⟨cb,5,none⟩=some (.int .i64 ff.1))(h6:w.cell? ⟨cb,6,none⟩=some (.int .i64 ff.2))(hl:w.cell? ⟨lb,0,none⟩=some l0)(hz:∀j,w.frozen? ⟨lb,j,none⟩=false)(hf0:w.cell? ⟨fb,0,none⟩=some g0)(hf1:w.cell? ⟨fb,1,none⟩=some g1)(JJ:∀j,w.frozen? ⟨fb,j,none⟩=false)(n1:¬lb=fb)(n2:¬fb=lb)(n3:¬lb=cb)(n4:¬lb=p)(u:TypeId)(pv:Value) :
  CallsD prog 19 #[ptr p,ptr lb,ptr fb] (.panicking [{ v:=.iface u pv,recovered:=false }]) w λe u' w'=>
   e=.returned (.tuple #[])/\u'=.panicking [{ v:=.iface u pv,recovered:=true }]/\w'=((w.setCell ⟨lb,0,none⟩ (.slice none 0 0)).setCell ⟨fb,0,none⟩ (.int .i64 ff.1)).setCell ⟨fb,1,none⟩ (.int .i64 ff.2):=by
 refine callsD_of_wpS func19 rfl λc₀ cs hu=>?_
 apply wpS_seq
 apply wpS_region
 simp[wpOpsS,go_sem,recoverD,hu,ntmps19,Exit.thenS]
 refine wpS_cond (t:=true) (by simp[Act.eval,Array.replicate]) ?_
 simp only[if_true]
 refine wpS_of_wp ?_
 have z0:=hz 0
 have y0:=JJ 0
 have y1:=JJ 1
 clear hz JJ
 simp only[bO,bY,List.push_toArray,List.append_toArray,List.nil_append,List.cons_append]
 go_wp2
 simp[bodyPostS,results,results19]
theorem Kq:prog.underlying 22=some (.slice 31):=by kernel_rfl
theorem Ef(w:World)(b:Nat)(v:Value)(h:w.cell? ⟨b,0,none⟩=some v):(loadVar 22 ⟨b,0,none⟩).run prog w=.ok v w:=by
 simp[loadVar,isAgg,run_underlying Kq,h,go_sem]
theorem yV{fn:Func}{p q:Tmp}(h:fn.results = #[.cell p 22,.cell q 25])(tmps:Array Value)(w:World)(b2 b3:Nat)(v c a:Value)(fr fr':Nat × Nat)(t2:TypeId)(hp:tmps.getD p undef=.pointer (some ⟨b2,0,none⟩))(hq:tmps.getD q undef=.pointer (some ⟨b3,0,none⟩))(hg:w.heap[b2]? = some (.cells #[v] t2 fr))(hg3:w.heap[b3]? = some (.cells #[c,a] 25 fr')):(results fn tmps).run prog w=.ok (.tuple #[v,.agg #[c,a]]) w:=by
 obtain⟨d,hu,hd⟩:=X6
 have hl:=run_loadVar_row (P:=prog) w b3 25 25 #[c,a] fr' d hg3 hu (by cases d <;> first|rfl|exact hd) (by rw[PL];rfl)
 have hl2:=Ef w b2 v (cell_of_row w b2 0 _ _ _ hg)
 have hp':tmps[p]?.getD undef=.pointer (some ⟨b2,0,none⟩):=by simpa using hp
 have hq':tmps[q]?.getD undef=.pointer (some ⟨b3,0,none⟩):=by simpa using hq
 simp[results,h,hp',hq',asAddr,hl,hl2]
theorem Ic(s:ByteArray)(hs:s.size<=1000000)(w:World)(ht:Tabs w)(hm:MarksIn w)(n:Nat)(f:jv)(hP:P n (.pg .nil) ⟨gU s.data.toList,0⟩=some (.error f)) :
  Calls prog 5 #[.string s] w λe w'=>e=.returned (.tuple #[.slice none 0 0,fv f])/\Below w.heap.size w w':=by
 have hmf:∀ (fn:Fn) (first cap:Array Value) (w:World),(Instr.makeFunc fn first cap).run prog w=.ok (.func fn first cap) w:=λ_ _ _ _=>rfl
 have bA:Below w.heap.size w ((w.alloc (.cells #[.slice none 0 0] 22)).alloc (.cells #[.int .i64 0,.int .i64 0] 25)):=((Below.refl _ w).alloc (Nat.le_refl _) _).alloc (by simp) _
 have cn:=uM s hs _ (ht.below bA) (hm.below bA)
 have cp:=uJ n
 go_enter_defers func5,ntmps5
 go_upto_region 2 with(go_at_call 18;(with_reducible refine cn.mono ?_);rintro e w2 ⟨rfl,b2,v,hc⟩;clear cn)
 simp only[aL] at hc b2
 have lc:=(Cx.start hc).lt
 have z2:=b2.size
 simp only[aL] at z2
 have n1:=aY w (.cells #[.slice none 0 0] 22)
 have n2:=aY (w.alloc (.cells #[.slice none 0 0] 22)) (.cells #[.int .i64 0,.int .i64 0] 25)
 simp only[aL] at n2
 have bC:Below w2.heap.size w2 (w2.alloc (.cells #[ptr (w.heap.size+1+1)] 49)):=(Below.refl _ w2).alloc (Nat.le_refl _) _
 have r0:=aF ((b2.block w.heap.size (by omega)).trans ((Below.heap_alloc _ _ _ (by simp)).trans n1)) bC
 have r1:=aF ((b2.block (w.heap.size+1) (by omega)).trans n2) bC
 have rn:=aY w2 (.cells #[ptr (w.heap.size+1+1)] 49)
 have hx:=((Cx.start hc).below bC)
 have hc3:Cv (w2.alloc (.cells #[ptr (w.heap.size+1+1)] 49)) (w.heap.size+1+1) (gU s.data.toList) v ⟨gU s.data.toList,0⟩:=hx.cv
 have bW:Below w.heap.size w (w2.alloc (.cells #[ptr (w.heap.size+1+1)] 49)):=bA.trans ((b2.mono (by omega)).trans (bC.mono (by omega)))
 have zz:w2.heap.size<(w2.alloc (.cells #[ptr (w.heap.size+1+1)] 49)).heap.size:=by simp
 generalize w2.alloc (.cells #[ptr (w.heap.size+1+1)] 49)=W3 at *
 generalize hnc:w2.heap.size=nc at *
 have WU:=cp.err (Cx.start hc3) hP
 have cn0:W3.cell? ⟨nc,0,none⟩=some (ptr (w.heap.size+1+1)):=aA rn 0
 have HH:=hid (aH r0 (aH r1 (aH rn (aH bW (aH zz (aH z2 lc))))))
 clear hx hc hc3 bC n1 n2 r0 r1 rn bW bA b2 cp ht hm hP
 go_wp2_with (go_at_call 20;(with_reducible refine WU.mono ?_);rintro e w4 ⟨he,htl,hu⟩;clear WU;(unfold kC fv at he);subst he)
 obtain⟨r0,r1,rn,bW,zz,z2,lc⟩:=HH.out
 obtain⟨ta,tb,tc,td,te,htop⟩:=htl
 have q0:=(hu.block w.heap.size (by omega) (by omega)).trans r0
 have q1:=(hu.block (w.heap.size+1) (by omega) (by omega)).trans r1
 have qn:=(hu.block nc (by omega) (by omega)).trans rn
 refine leaves_cons (f:=19) (args:=#[ptr nc,ptr w.heap.size,ptr (w.heap.size+1)]) (by simp) (by simp[go_sem]) ?_
 refine(Jd nc (w.heap.size+1+1) w.heap.size (w.heap.size+1) _ _ _ f w4 (aA qn 0) (aA htop 5) (aA htop 6) (aA q0 0) (aC q0) (aA q1 0) (aA q1 1) (aC q1) (by omega) (by omega) (by omega) (by omega) _ _).mono ?_
 rintro e u' w'' ⟨rfl,rfl,rfl⟩
 have p0:=aM (c:=[.slice none 0 0]) q0 0 (.slice none 0 0)
 have p1:=(ay w4 ⟨w.heap.size,0,none⟩ (.slice none 0 0) (w.heap.size+1) (by show w.heap.size+1≠w.heap.size;omega)).trans q1
 have p2:=aM (c:=[.int .i64 f.1,.int .i64 0]) (aM (c:=[.int .i64 0,.int .i64 0]) p1 0 (.int .i64 f.1)) 1 (.int .i64 f.2)
 have p3:=(ay _ ⟨w.heap.size+1,1,none⟩ (.int .i64 f.2) w.heap.size (by show w.heap.size≠w.heap.size+1;omega)).trans ((ay _ ⟨w.heap.size+1,0,none⟩ (.int .i64 f.1) w.heap.size (by show w.heap.size≠w.heap.size+1;omega)).trans p0)
 show Leaves _ _ _ _ [] (settle _) _
 simp only[settle]
 have bE:Below w.heap.size w w4:=bW.trans (hu.below (by omega) (λk e=>by omega))
 refine⟨_,yV rfl _ _ w.heap.size (w.heap.size+1) (.slice none 0 0) (.int .i64 f.1) (.int .i64 f.2) _ _ _ (by simp) (by simp) p3 p2,rfl,?_⟩
 exact((bE.setCell (by show w.heap.size<=w.heap.size;omega) _).setCell (by show w.heap.size<=w.heap.size+1;omega) _).setCell (by show w.heap.size<=w.heap.size+1;omega) _
def backs(bk:List Nat):List (Array Value):=(List.range bk.length).map λj=>#[.int .i64 ((bk.length-1-j:Nat):Int),ptr (bk.getD (bk.length-1-j) 0)]
theorem qE(bk:List Nat):(backs bk).length=bk.length:=by simp[backs]
theorem xP(bk:List Nat)(j:Nat)(hj:j<(backs bk).length):(backs bk)[j] = #[.int .i64 ((bk.length-1-j:Nat):Int),ptr (bk.getD (bk.length-1-j) 0)]:=by simp[backs]
theorem GK{W:World}{m:Nat}{v:Value}{bk:List Nat}(h:W.ownsRow m 54 1 v bk.length (bk.map ptr)){i:Nat}(hi:i<bk.length):∃g c,v=.slice (some ⟨g,0,none⟩) bk.length c/\bk.length<=c/\W.cell? ⟨g,i,none⟩=some (ptr (bk.getD i 0)):=by
 rcases h.2 with⟨_,e0⟩|⟨g,c,cur,rfl,h2,h3,h4,h5,h6,h7⟩
 ·omega
 ·refine⟨g,c,rfl,h4,?_⟩
  have e1:(bk.map ptr)[i]? = some (ptr (bk.getD i 0)):=by
   rw[List.getElem?_map,List.getD_eq_getElem?_getD,List.getElem?_eq_getElem hi];rfl
  rw[cell_of_row _ g _ _ _ _ h3,<- e1,<- h7,List.getElem?_take,if_pos (by omega),Array.getElem?_toList]
theorem Td(o:Option Addr)(l c:Nat)(w:World):Calls prog 33 #[.slice o l c] w λe w'=>e=.returned (.func (.func 56) #[] #[.pointer (some ⟨w.heap.size,0,none⟩)])/\w'=w.alloc (.cells #[.slice o l c] 68):=by
 go_enter func33,ntmps33
 go_wp2
 go_ret
 exact⟨rfl,rfl⟩
theorem PV:∀args w,(callFunc 56 args).run prog w=.ok (.enter 56 args) w:=enters_of func56 (by kernel_rfl) rfl
theorem Je(sb m:Nat)(v:Value)(bk:List Nat)(hl:bk.length<=2000000):sW 56 #[.pointer (some ⟨sb,0,none⟩)] (backs bk) (λW=>W.cell? ⟨sb,0,none⟩=some v/\W.ownsRow m 54 1 v bk.length (bk.map ptr)):=by
 intro n l J X hn hL hB hY D0 W h0
 show CallsIn Fence.wide n prog 56 #[.func (.yield l) #[] #[],.pointer (some ⟨sb,0,none⟩)] W λe W'=>(∃v,e=.returned v)/\((∃D',J (backs bk).length D' W')\/X W')
 obtain⟨⟨g0,g1⟩,-⟩:=hL 0 D0 W h0
 obtain⟨o,cap,rfl⟩:=aI g1
 clear g1
 have HL:=hid hL
 have HY:=hid hY
 have H0:=hid h0
 have e0:IntKind.i64.wrap ((bk.length:Int)-1)=(bk.length:Int)-1:=by rw[IntKind.wrap_i64];omega
 refine callsIn_of_wp func56 rfl trivial ?_ rfl
 simp only[ntmps56,List.size_toArray,List.length_cons,List.length_nil,Nat.reduceAdd,Nat.reduceSub,bO,bY,List.push_toArray,List.append_toArray,List.nil_append,List.cons_append]
 clear hY hL hB h0
 refine wpIn_wide.2 ?_
 go_upto_region 1 with fail
 go_loopw [3] (λi' wr=>∃ (k j:Nat) (D:Nat->Prop),k+j=bk.length/\i'=.int .i64 ((k:Int)-1)/\J j D wr) (λi' _=>((intOf i')+1).toNat)
 case atStart=>exact⟨bk.length,0,D0,rfl,rfl,H0.out⟩
 case round=>
  obtain⟨k,j,D,hk,rfl,hJ⟩:=hrel
  clear H0 g0
  obtain⟨gr,gw⟩:=(HL.out j D wr hJ).1
  cases k with
  | zero=>
   have b0:¬ ((0:Nat):Int)-1≥0:=by omega
   have hj:j=bk.length:=by omega
   subst hj
   have HJ:=hid hJ
   clear hJ hk gr gw e0
   go_wp2
   go_end0
   exact⟨⟨_,rfl⟩,.inl ⟨D,by rw[qE];exact HJ.out⟩⟩
  | succ i=>
   have ei:((i+1:Nat):Int)-1=(i:Nat):=by omega
   rw[ei]
   have hi:i<bk.length:=by omega
   have hj:j<(backs bk).length:=by rw[qE];omega
   obtain⟨g,c,eo,hc,hcell⟩:=GK gw hi
   simp only[Value.slice.injEq,true_and] at eo
   obtain⟨rfl,rfl⟩:=eo
   have yy:=HY.out j hj D _ hJ
   rw[xP,show bk.length-1-j=i by omega] at yy
   generalize bk.getD i 0=b at *
   have y2:YieldAt Fence.wide (n-1) prog l #[.int .i64 (i:Nat),ptr b] wr λe W'=>(e=.returned (.bool true)/\(∃D',J (j+1) D' W')/\(∀k,k<wr.heap.size->¬D k->W'.heap[k]? = wr.heap[k]?))\/(e=.returned (.bool false)/\X W'):=yy
   obtain⟨fn',tmps,assign,body,hy,hR⟩:=y2
   have b0:((i:Nat):Int)≥0:=by omega
   have e1:IntKind.i64.wrap ((i:Int)-1)=(i:Int)-1:=by rw[IntKind.wrap_i64];omega
   have i1:0<=(i:Int)/\(i:Int)<bk.length:=by omega
   have HK:=hid hk
   clear yy hJ hk gw e0
   go_upto_region 3 with fail
   refine(wpIn_wide (n:=n)).1 ?_
   gi_wp2
   refine hR.mono ?_
   rintro e W3 (⟨rfl,hK3,-⟩|⟨rfl,JQ⟩)
   ·have K3:=hid hK3
    clear hK3 hy hR
    gi_wp2
    go_wp2
    go_roundw
    case rel=>
     obtain⟨D',hD'⟩:=K3.out
     exact⟨i,j+1,D',by have:=HK.out;omega,rfl,hD'⟩
    case measure=>simp[intOf]
   ·clear hy hR
    gi_wp2
    go_wp2
    refine bodyPost_ret (results_none rfl _ _ _) rfl ?_
    exact⟨⟨_,rfl⟩,.inr JQ⟩
def qM(p:Nd × Nat):Array Value:=#[.int .i64 p.1.kind,.int .i64 p.1.a,.int .i64 (p.2:Nat),.string p.1.text,.int .i64 p.1.int,.int .u64 p.1.bits]
def eH(L:List (Nd × Nat)):List Value:=L.flatMap (λp=>(qM p).toList)
theorem ED(L:List (Nd × Nat))(p:Nd × Nat):eH (L++[p])=eH L++(qM p).toList:=by simp[eH]
theorem Ew:(prog.info? 31).map (λi=>(i.zero,i.size,i.bytes))=some (some (.agg #[.int .i64 0,.int .i64 0,.int .i64 0,.string ⟨#[]⟩,.int .i64 0,.int .u64 0]),6,56):=by kernel_rfl
theorem D8(W:World)(ty:TypeId)(v:Value)(n:Nat)(xs:List Value){B0:Nat}(hown:W.ownsRow B0 31 6 v n xs)(hB:B0<=W.heap.size)(p:Nd × Nat)(hn:n<=4000000):∃v' w',(Builtin.append_ #[22,22] ty #[v,.slice (some ⟨W.heap.size,0,none⟩) 1 1]).run prog (W.alloc (.cells (qM p) 31))=.ok v' w'/\w'.ownsRow B0 31 6 v' (n+1) (xs++(qM p).toList)/\(W.alloc (.cells (qM p) 31)).grownBy w' v.ownBlock/\(v'.ownBlock=v.ownBlock\/v'.ownBlock=some (W.alloc (.cells (qM p) 31)).heap.size):=by
 obtain⟨i0,hi,hz0,hz1,hz2⟩:=info_parts Ew
 have e0:=World.cell?_alloc_new W (qM p) 31
 have ho:=hown.alloc (.cells (qM p) 31)
 obtain⟨v',w',h1,h2,h3,_,h5⟩:=run_append_own_at (P:=prog) (W.alloc (.cells (qM p) 31)) B0 22 ty 31 i0 _ 6 56 Kq hi hz0 hz1 hz2 rfl (by omega) v n xs ho ⟨W.heap.size,0,none⟩ 1 1 (qM p).toList (by simp[qM]) (by
  intro j u hj
  have e1:((⟨W.heap.size,0,none⟩:Addr).add j)=⟨W.heap.size,j,none⟩:=by simp[Addr.add];intro e;exact e.symm
  rw[e1,e0 j]
  simpa using hj) (by
  intro u hu
  simp[qM] at hu
  rcases hu with rfl|rfl|rfl|rfl|rfl|rfl <;> rfl) (by unfold maxLen;omega) (by omega) (by simp;omega)
 exact⟨v',w',h1,h2,h3,h5⟩
def Marks(B:Nat)(w:World):List Deferred->Prop
 | []=>True
 | d::ds=>(∃r,d={ target:=.collected r,args:=#[] }/\B<=r/\w.heap[r]? = some (.deferred (some []))/\∀d' ∈ ds,d'≠d)/\Marks B w ds
theorem Marks.kept{B:Nat}{w w':World}(hk:∀k:Nat,B<=k->w.heap[k]? = some (.deferred (some []))->w'.heap[k]? = w.heap[k]?):∀ds,Marks B w ds->Marks B w' ds
 | [],_=>trivial
 | d::ds,⟨⟨r,h1,h2,h3,h4⟩,h5⟩=>⟨⟨r,h1,h2,(hk r h2 h3).trans h3,h4⟩,Marks.kept hk ds h5⟩
theorem l9{F:Fence}{n:Nat}{P:Program}{fn:Func}{tmps:Array Value}{R:Ending->World->Prop}{B:Nat}:∀ (ds:List Deferred) (w:World),Marks B w ds ->
  (∀w',It.bL (λk=>B<=k/\w.heap[k]? = some (.deferred (some []))) w w'->LeavesIn F n P fn tmps R [] .returning w')->LeavesInM F n P fn tmps R ds .returning w
 | [],w,_,h=>h w (It.bL.refl _ _)
 | d::ds,w,⟨⟨r,h1,h2,h3,h4⟩,h5⟩,h=>by
  refine⟨by simp,.inl ⟨r,_,by rw[h1],run_takeDeferred h3,?_⟩⟩
  have hu:It.bL (λk=>B<=k/\w.heap[k]? = some (.deferred (some []))) w (w.putObj r (.deferred none)):=It.kY (S:=λk=>B<=k/\w.heap[k]? = some (.deferred (some []))) ⟨h2,h3⟩ _
  have hrr:(w.putObj r (.deferred none)).heap[r]? = some (.deferred none):=World.putObj_heap_same (Array.getElem?_eq_some_iff.1 h3).1
  have hM:Marks B (w.putObj r (.deferred none)) ds:=by
   have:∀es:List Deferred,(∀d' ∈ es,d'≠d)->Marks B w es->Marks B (w.putObj r (.deferred none)) es:=by
    intro es
    induction es with
    | nil=>intro _ _;trivial
    | cons e es ih=>
     rintro hne ⟨⟨q,g1,g2,g3,g4⟩,g5⟩
     refine⟨⟨q,g1,g2,?_,g4⟩,ih (λd' hd'=>hne d' (by simp[hd'])) g5⟩
     rw[dI (by rintro rfl;exact hne e (by simp) (by rw[g1,h1]))]
     exact g3
   exact this ds h4 h5
  refine l9 ds _ hM (λw' hw'=>h w' (hu.trans (hw'.mono ?_)))
  rintro k ⟨hk1,hk2⟩
  refine .inl ⟨hk1,?_⟩
  by_cases e:k=r
  ·subst e;rw[hrr] at hk2;cases hk2
  ·rwa [dI e] at hk2
theorem S9(f:Nat->Value):(List.range 51).map f=[f 0,f 1,f 2,f 3,f 4,f 5,f 6,f 7,f 8,f 9,f 10,f 11,f 12,f 13,f 14,f 15,f 16,f 17,f 18,f 19,f 20,f 21,f 22,f 23,f 24,f 25,f 26,f 27,f 28,f 29,f 30,f 31,f 32,f 33,f 34,f 35,f 36,f 37,f 38,f 39,f 40,f 41,f 42,f 43,f 44,f 45,f 46,f 47,f 48,f 49,f 50]:=rfl
def Uz(x2 x3 x4:Value)(u:Nat->Value):Array Value:=#[u 0,u 1,x2,x3,x4,u 5,u 6,u 7,u 8,u 9,u 10,u 11,u 12,u 13,u 14,u 15,u 16,u 17,u 18,u 19,u 20,u 21,u 22,u 23,u 24,u 25,u 26,u 27,u 28,u 29,u 30,u 31,u 32,u 33,u 34,u 35,u 36,u 37,u 38,u 39,u 40,u 41,u 42,u 43,u 44,u 45,u 46,u 47,u 48,u 49,u 50]
theorem OX(t:Array Value){x2 x3 x4:Value}(hs:t.size=51)(h2:t.getD 2 undef=x2)(h3:t.getD 3 undef=x3)(h4:t.getD 4 undef=x4):∃u,t=Uz x2 x3 x4 u:=by
 refine⟨λn=>t.getD n undef,?_⟩
 subst h2 h3 h4
 have e:t.toList=(List.range 51).map (λn=>t.getD n undef):=by
  apply List.ext_getElem?
  intro i
  by_cases hi:i<51
  ·rw[List.getElem?_map,List.getElem?_range hi]
   simp[hi,hs]
  ·rw[dQ (by simp;omega),dQ (by simp;omega)]
 rw[S9] at e
 have:t=t.toList.toArray:=by simp
 rw[this,e]
 rfl
end Go.Proofs.YtgchnkgolclmgaaGreatDoor.W.Tr

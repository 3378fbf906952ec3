import Derived.Test.YtjplieobnknnpaaGreatDoorKU
import Derived.Test.YtjplieobnknnpaaGreatDoorKT
import Derived.Test.YtjplieobnknnpaaGreatDoorKS
import Derived.Test.YtjplieobnknnpaaGreatDoorKW
import Derived.Test.YtjplieobnknnpaaGreatDoorKD
import Derived.Test.YtjplieobnknnpaaGreatDoorKA
open List renaming foldl_cons → z6z, getElem?_cons_zero → z7z, length_cons → z10z, length_nil → z11z, getElem?_cons_succ → z12z, getElem?_eq_some_iff → z13z
open Array renaming getElem?_eq_some_iff → z5z
open Nat renaming le_refl → z1z, reduceAdd → z4z
open Go.World renaming alloc → z2z, size_alloc → z8z, alloc_heap_new → z9z
open Go.RowKit.Below renaming refl → z3z
open And renaming intro → z0z
open Go.Proofs.Tryz
set_option maxRecDepth 1000000
set_option maxHeartbeats 8000000
namespace Go.Proofs.YtjplieobnknnpaaGreatDoor.W.Tr
open Go.ChangeShapes Go.WideShapes Go.RowKit Go.Shelf Go.ChangeMaps Ck
set_option linter.unusedVariables false
set_option linter.unusedSimpArgs false
theorem Xv:prog.underlying 82=some (.map 9 3):=by kernel_rfl
theorem ACC{g:List (ByteArray × Nat)}{s:ByteArray}(v:Nat)(h:DN g s=false):EM g s v=g++[(s,v)]:=by
 induction g with
 | nil=>rfl
 | cons p l ih=>
  unfold DN at h ih
  simp only[List.any_cons,Bool.or_eq_false_iff] at h
  unfold EM
  rw[if_neg (by rw[h.1];simp),ih h.2]
  rfl
def Od:Fo->Prop
 | .nil=>True
 | .cons n ks r=>(n.kind≠2->0<ks.len)/\Od r
structure Nq (B gl lc ge ce:Nat) (L:List (Nd × Nat)) (E:List Nat) (kd W0s:Nat) (G P:List (ByteArray × Nat)) (w:World) (i:Nat) (D:Nat->Prop) (W:World):Prop where
 bel:Below B w W
 row:W.heap[B]? = some (.cells #[.slice (some ⟨gl,0,none⟩) L.length lc,.slice (some ⟨ge,0,none⟩) E.length ce] 41 (0,0))
 b2:W.heap[B+2]? = some (.cells #[.map (some (B+1))] 83 (0,0))
 b4:W.heap[B+4]? = some (.cells #[.map (some (B+3))] 82 (0,0))
 kr:W.heap[B+5]? = some (.cells #[.slice (some ⟨gl,0,none⟩) L.length lc,.slice (some ⟨ge,0,none⟩) E.length ce] 41 (0,0))
 ka:W.heap[B+6]? = some (.cells #[.int .i64 0] 3 (0,0))
 rin:EA gl lc ge ce L E W
 sz:W0s<=W.heap.size
 dd:∀k,D k↔k=B+1\/k=B+3
 st:∃ (r:Fo) (x:Nat) (g p:List (ByteArray × Nat)),r.len+i=kd/\hop E 1 i=some x/\Df L E x r/\Od r/\Fy x r g=G/\Fg r p=P/\Bz W (B+1) g/\Bz W (B+3) p
section
variable {B gl lc ge ce:Nat} {L:List (Nd × Nat)} {E:List Nat} {kd W0s:Nat} {G P:List (ByteArray × Nat)} {w W W':World} {i:Nat} {D:Nat->Prop}
theorem EA.low(q:EA gl lc ge ce L E W)(hB0:gl<B/\ge<B)(hBW:Below B W W'):EA gl lc ge ce L E W':=by
 obtain⟨⟨g,c,e,h1,h2,h3⟩,⟨g',c',e',h1',h3'⟩⟩:=q
 simp only[Value.slice.injEq,Option.some.injEq,Addr.mk.injEq,true_and,and_true] at e e'
 obtain⟨rfl,rfl⟩:=e
 obtain⟨rfl,rfl⟩:=e'
 exact⟨⟨gl,lc,rfl,by have:=hBW.size;omega,h2,λi p hp j hj=>(hBW.cell (p:=⟨gl,_,none⟩) hB0.1).trans (h3 i p hp j hj)⟩,⟨ge,ce,rfl,by have:=hBW.size;omega,λi x hx=>(hBW.cell (p:=⟨ge,i,none⟩) hB0.2).trans (h3' i x hx)⟩⟩
theorem Nq.keep(q:Nq B gl lc ge ce L E kd W0s G P w i D W)(hB0:gl<B/\ge<B)(hw:B+7<=W0s){S:Nat->Prop}(hU:It.AL S W W')(hS:∀k,S k->B+7<=k):Nq B gl lc ge ce L E kd W0s G P w i D W':=by
 have sz:=q.sz
 have key:∀k,k<B+7->W'.heap[k]? = W.heap[k]?:=λk hk=>hU.block k (by omega) (λe=>by have:=hS k e;omega)
 have hBW:Below B W W':=hU.below (by omega) (λk e=>by have:=hS k e;omega)
 obtain⟨r,x,g,p,e1,e2,e3,e4,e5,e6,e7,e8⟩:=q.st
 exact⟨q.bel.trans hBW,(key _ (by omega)).trans q.row,(key _ (by omega)).trans q.b2,(key _ (by omega)).trans q.b4,(key _ (by omega)).trans q.kr,(key _ (by omega)).trans q.ka,q.rin.low hB0 hBW,Nat.le_trans sz hU.size,q.dd,r,x,g,p,e1,e2,e3,e4,e5,e6,e7.on (key _ (by omega)),e8.on (key _ (by omega))⟩
theorem Nq.next(q:Nq B gl lc ge ce L E kd W0s G P w i D W)(hB0:gl<B/\ge<B)(hw:B+7<=W0s){W1:World}(hB1:Below W.heap.size W W1){m:Nat}(hm:m=B+1\/m=B+3)(hU:It.AL (λk=>k=m) W1 W'){r:Fo}{x:Nat}{g p:List (ByteArray × Nat)}(e1:r.len+(i+1)=kd)(e2:hop E 1 (i+1)=some x)(e3:Df L E x r)(e4:Od r)(e5:Fy x r g=G)(e6:Fg r p=P)(e7:Bz W' (B+1) g)(e8:Bz W' (B+3) p):Nq B gl lc ge ce L E kd W0s G P w (i+1) D W':=by
 have q1:=q.keep hB0 hw (It.AL.of_below (S:=λ_=>False) hB1) (λk e=>e.elim)
 have sz:=q1.sz
 have key:∀k,k<B+7->k≠B+1->k≠B+3->W'.heap[k]? = W1.heap[k]?:=λk hk n1 n3=>hU.block k (by omega) (λe=>by omega)
 have hBW:Below B W1 W':=hU.below (by omega) (λk e=>by omega)
 exact⟨q1.bel.trans hBW,(key _ (by omega) (by omega) (by omega)).trans q1.row,(key _ (by omega) (by omega) (by omega)).trans q1.b2,(key _ (by omega) (by omega) (by omega)).trans q1.b4,(key _ (by omega) (by omega) (by omega)).trans q1.kr,(key _ (by omega) (by omega) (by omega)).trans q1.ka,q1.rin.low hB0 hBW,Nat.le_trans sz hU.size,q.dd,r,x,g,p,e1,e2,e3,e4,e5,e6,e7,e8⟩
theorem Nq.gk(q:Nq B gl lc ge ce L E kd W0s G P w i D W){nd:Nd}(ha:L[0]? = some (nd,kd)):Qk (B+6) (B+5) gl lc ge ce L E 0 kd W:=by
 obtain⟨-,-,c2,-⟩:=q.rin.row.at ha
 obtain⟨g',c',e',h1',h3'⟩:=q.rin.ends
 simp only[Value.slice.injEq,Option.some.injEq,Addr.mk.injEq,true_and,and_true] at e'
 obtain⟨rfl,rfl⟩:=e'
 exact⟨AU q.ka 0,AU q.kr 0,AU q.kr 1,c2,h3'⟩
theorem Nq.fin(q:Nq B gl lc ge ce L E kd W0s G P w i D W){W1 W0:World}(hW0:W0.heap.size=B+7)(hs:W0.heap.size+2<=W.heap.size)(hB1:Below W.heap.size W W1){m:Nat}(hm:m=B+1\/m=B+3)(hU:It.AL (λk=>k=m) W1 W')(q2:Nq B gl lc ge ce L E kd W0s G P w (i+1) D W')(act:Act):Mf (W0.heap.size+1) W0.heap.size D W (λW'=>∃D',Nq B gl lc ge ce L E kd W0s G P w (i+1) D' W') (λ_ _=>False) .normal act W':=by
 have key:∀k,k<W.heap.size->k≠B+1->k≠B+3->W'.heap[k]? = W.heap[k]?:=λk hk n1 n3=>(hU.block k (Nat.lt_of_lt_of_le hk hB1.size) (λe=>by omega)).trans (hB1.block k hk)
 exact⟨⟨key _ (by omega) (by omega) (by omega),key _ (by omega) (by omega) (by omega)⟩,λk hk1 hk2=>key k hk1 (λe=>hk2 ((q.dd k).2 (.inl e))) (λe=>hk2 ((q.dd k).2 (.inr e))),D,q2⟩
end
theorem zH{B:Nat}{w:World}{s gl lc ge ce:Nat}{L:List (Nd × Nat)}{E:List Nat}{mr:Int}{G P:List (ByteArray × Nat)}(hs:B+7<=s)(hB0:gl<B/\ge<B)(hok:Gy L E)
  (hb:w.heap[s+3]? = some (.cells (Ey (.slice (some ⟨gl,0,none⟩) L.length lc) (.slice (some ⟨ge,0,none⟩) E.length ce) mr (B+3) s (.slice none 0 0) (.slice (some ⟨s+1,0,none⟩) 1 1) (.slice none 0 0) (s+2)) 91 (0,0)))
  (hr:EA gl lc ge ce L E w) (h1:Bz w (B+1) G) (h3:Bz w (B+3) P) (ht:Bz w s []) (hc:Ej w (s+2) []) (hsc:w.heap[s+1]? = some (.cells #[.map (some (B+1))] 83 (0,0))) :
  Pz B w (s+3) L E mr P (.slice (some ⟨gl,0,none⟩) L.length lc) (.slice (some ⟨ge,0,none⟩) E.length ce) (B+3) s (s+2) (.slice none 0 0) (.slice (some ⟨s+1,0,none⟩) 1 1) (.slice none 0 0) [B+1] ⟨[],[],[G],[],[]⟩:=by
 refine⟨⟨hb,hr.row,hr.ends,hok,World.ownsRow_nil _ _ _ _,⟨rfl,.inr ⟨s+1,1,_,rfl,by omega,hsc,z1z _,by unfold maxLen;omega,rfl,rfl⟩⟩,World.ownsRow_nil _ _ _ _,rfl,?_,h3,ht,hc,⟨by simp,by simp,by simp⟩,by simp⟩,by omega,λk e=>by cases e;exact hB0.1,λk e=>by cases e;exact hB0.2,?_,?_⟩
 ·intro i b l hb' hl
  cases i with
  | zero=>
   simp at hb' hl
   subst hb' hl
   exact h1
  | succ i=>simp at hb'
 ·intro b hb'
  simp at hb'
  omega
 ·simp only[List.nodup_cons,List.mem_cons,List.not_mem_nil,not_or,or_false]
  refine⟨⟨by omega,by omega,by omega⟩,⟨by omega,by omega⟩,⟨by omega,?_⟩⟩
  exact⟨λh=>h.elim,List.nodup_nil⟩
theorem Ni:∀ (os:List Obj) (w:World),(os.foldl z2z w).heap.size=w.heap.size+os.length/\Below w.heap.size w (os.foldl z2z w)/\∀k,k<os.length->(os.foldl z2z w).heap[w.heap.size+k]? = os[k]?
 | [],w=>⟨rfl,z3z _ _,λk hk=>by simp at hk⟩
 | o::os,w=>by
  obtain⟨h1,h2,h3⟩:=Ni os (w.alloc o)
  have z:(w.alloc o).heap.size=w.heap.size+1:=z8z ..
  have b:Below w.heap.size w (w.alloc o):=(z3z _ w).alloc (z1z _) _
  refine⟨by rw[z6z,h1,z];simp;omega,b.trans (h2.mono b.size),λk hk=>?_⟩
  cases k with
  | zero=>
   rw[z6z,Nat.add_zero,h2.block _ (by omega)]
   exact z9z w o
  | succ k=>
   have:=h3 k (by simp at hk;omega)
   rw[z,show w.heap.size+1+k=w.heap.size+(k+1) by omega] at this
   exact this
theorem uW(gl lc ge ce:Nat)(L:List (Nd × Nat))(E:List Nat)(hok:Gy L E)(n:Nd)(ks:Fo)(ha:L[0]? = some (n,ks.len))(hLi:Df L E 1 ks)(hE:Od ks)(w:World)(hR:EA gl lc ge ce L E w)(mr:Int) :
  Calls prog 24 #[.agg #[.slice (some ⟨gl,0,none⟩) L.length lc,.slice (some ⟨ge,0,none⟩) E.length ce],.int .i64 mr] w λe w'=>∃pb,e=.returned (.pointer (some ⟨pb,0,none⟩))/\Below w.heap.size w w'/\∃mp mt mc ov sv pv bs,Pz w.heap.size w' pb L E mr (Fg ks []) (.slice (some ⟨gl,0,none⟩) L.length lc) (.slice (some ⟨ge,0,none⟩) E.length ce) mp mt mc ov sv pv bs ⟨[],[],[Fy 1 ks []],[],[]⟩:=by
 obtain⟨hgl,hge⟩:=hR.gl
 have hLl:L.length<=1000000:=by obtain⟨_,_,_,_,h,_⟩:=hR.row;exact h
 have ck:∀W:World,Calls prog 16 #[.agg #[.slice (some ⟨gl,0,none⟩) L.length lc,.slice (some ⟨ge,0,none⟩) E.length ce],.int .i64 0] W λe w'=>e=.returned (.func (.func 26) #[] #[.pointer (some ⟨W.heap.size+1,0,none⟩),.pointer (some ⟨W.heap.size,0,none⟩)])/\w'=(W.alloc (.cells #[.slice (some ⟨gl,0,none⟩) L.length lc,.slice (some ⟨ge,0,none⟩) E.length ce] 41)).alloc (.cells #[.int .i64 0] 3):=λW=>Ud W (.slice (some ⟨gl,0,none⟩) L.length lc) (.slice (some ⟨ge,0,none⟩) E.length ce) ⟨_,_,_,rfl⟩ ⟨_,_,_,rfl⟩ 0
 obtain⟨kd,hkd⟩:∃kd,ks.len=kd:=⟨_,rfl⟩
 rw[hkd] at ha
 have H:=hid (z0z hR (z0z ha (z0z hLi (z0z hE (z0z hkd hok)))))
 have hmm:=@run_makeMap prog
 clear hR ha hLi hE hkd hok
 refine(callsIn_wide (n:=9)).1 ?_
 refine callsIn_of_wp_marks func24 rfl trivial ?_ rfl
 refine wpIn_wide.2 ?_
 simp only[ntmps24,List.size_toArray,z10z,z11z,z4z,Nat.reduceSub,Array.replicate_succ,Array.replicate_zero,List.push_toArray,List.append_toArray,List.nil_append,List.cons_append]
 go_wp2_with (go_at_call 16;(with_reducible refine(ck _).mono ?_);rintro e w1 ⟨rfl,hw⟩;(have hw':=hw.symm);subst hw';clear hw ck)
 obtain⟨hR,ha,hLi,hE,hkd,hok⟩:=H.out
 obtain⟨B,hBe⟩:∃B,w.heap.size=B:=⟨_,rfl⟩
 have hgl2:gl<B/\ge<B:=by omega
 obtain⟨a1,a2,a3⟩:=Ni [.cells #[.slice (some ⟨gl,0,none⟩) L.length lc,.slice (some ⟨ge,0,none⟩) E.length ce] 41,.map #[] 0,.cells #[.map (some (w.heap.size+1))] 83,.map #[] 0,.cells #[.map (some (w.heap.size+1+1+1))] 82,.cells #[.slice (some ⟨gl,0,none⟩) L.length lc,.slice (some ⟨ge,0,none⟩) E.length ce] 41,.cells #[.int .i64 0] 3] w
 simp only[z6z,List.foldl_nil,z10z,z11z,Nat.zero_add,z4z] at a1 a2 a3
 have q0:Nq B gl lc ge ce L E kd (B+7) (Fy 1 ks []) (Fg ks []) w 0 (λk=>k=B+1\/k=B+3) (z2z (z2z (z2z (z2z (z2z (z2z (w.alloc (.cells #[.slice (some ⟨gl,0,none⟩) L.length lc,.slice (some ⟨ge,0,none⟩) E.length ce] 41)) (.map #[] 0)) (.cells #[.map (some (w.heap.size+1))] 83)) (.map #[] 0)) (.cells #[.map (some (w.heap.size+1+1+1))] 82)) (.cells #[.slice (some ⟨gl,0,none⟩) L.length lc,.slice (some ⟨ge,0,none⟩) E.length ce] 41)) (.cells #[.int .i64 0] 3)):=by
  subst hBe
  refine⟨a2,a3 0 (by omega),a3 2 (by omega),a3 4 (by omega),a3 5 (by omega),a3 6 (by omega),hR.below a2,by rw[a1];exact z1z _,λk=>Iff.rfl,ks,1,[],[],by omega,rfl,hLi,hE,rfl,rfl,⟨#[],0,a3 1 (by omega),rfl⟩,⟨#[],0,a3 3 (by omega),rfl⟩⟩
 have HBE:=hid hBe
 have HQ:=hid q0
 have HE:=hid a1
 have HA:=hid ha
 have HO:=hid hok
 clear q0 a1 a2 a3 hR ha hLi hE hok H hgl hge
 simp only[hBe,Nat.add_assoc,z4z]
 try simp only[hBe,Nat.add_assoc,z4z] at HQ HE
 clear hBe
 generalize z2z _ (Obj.cells #[Value.int IntKind.i64 0] 3)=W0 at *
 refine OX (TQ (B+6) (B+5) gl lc ge ce L E HO.out hLl 0 kd n HA.out) VF rfl (Nq B gl lc ge ce L E kd (B+7) (Fy 1 ks []) (Fg ks []) w) (λ_ _=>False) ?hL ?hI ?hIx _ HQ.out ?A ?hsz ?assign ?body ?done ?stop
 case assign=>
  intro L' i hi W K hK
  rw[Lr]
  simp only[Rj,List.setIfInBounds_toArray,List.set_cons_succ,List.set_cons_zero]
  gi_wp2_with (simp only[Oper.semAt];go_simp)
  exact hK
 case hL=>
  intro i D W q
  refine⟨q.gk HA.out,λk hk=>?_⟩
  have:=q.sz
  rcases(q.dd k).1 hk with rfl|rfl <;> omega
 case hI=>
  intro i D W W' q hu
  exact q.keep hgl2 (z1z _) hu (λk e=>by have:=HE.out;omega)
 case hIx=>intro c W W' h;exact h.elim
 case hsz=>intro i hi;rw[Lr];rfl
 case stop=>intro c W h;exact h.elim
 case done=>
  intro D W q hD
  rw[Ky] at q
  obtain⟨r,x,g,p,e1,e2,e3,e4,e5,e6,e7,e8⟩:=q.st
  have hr:r=.nil:=by
   cases r with
   | nil=>rfl
   | cons _ _ _=>simp[Fo.len] at e1
  subst hr
  have hg:g=Fy 1 ks []:=e5
  have hp:p=Fg ks []:=e6
  subst hg hp
  have sz:=q.sz
  obtain⟨s,hse⟩:∃s,W.heap.size=s:=⟨_,rfl⟩
  obtain⟨a1,a2,a3⟩:=Ni [.map #[] 0,.cells #[.map (some (B+1))] 83,.map #[] 0,.cells (Ey (.slice (some ⟨gl,0,none⟩) L.length lc) (.slice (some ⟨ge,0,none⟩) E.length ce) mr (B+3) s (.slice none 0 0) (.slice (some ⟨s+1,0,none⟩) 1 1) (.slice none 0 0) (s+2)) 91] W
  simp only[z6z,List.foldl_nil,z10z,z11z,Nat.zero_add,z4z,hse] at a1 a2 a3
  have bA:Below W.heap.size W (W.alloc (.map #[] 0)):=(z3z _ W).alloc (z1z _) _
  have r0:=AU q.row 0
  change _=some (Value.slice (some ⟨gl,0,none⟩) L.length lc) at r0
  have r1:=AU q.row 1
  change _=some (Value.slice (some ⟨ge,0,none⟩) E.length ce) at r1
  have y4:W.cell? ⟨B+4,0,none⟩=some (.map (some (B+3))):=AU q.b4 0
  have y2:(W.alloc (.map #[] 0)).cell? ⟨B+2,0,none⟩=some (.map (some (B+1))):=AU ((bA.block _ (z5z.1 q.b2).1).trans q.b2) 0
  rw[HE.out] at hD
  have hDl:=(z5z.1 hD).1
  have X:=hid (z0z q (z0z e7 (z0z e8 (z0z a1 (z0z a2 (z0z a3 (z0z hD sz)))))))
  clear q e1 e2 e3 e4 e5 e6 e7 e8 a1 a2 a3 bA hD
  go_wp2
  obtain⟨q,e7,e8,a1,a2,a3,hD,sz⟩:=X.out
  change bodyPostM _ _ _ _ _ _ _ ((((W.alloc (.map #[] 0)).alloc (.cells #[.map (some (B+1))] 83)).alloc (.map #[] 0)).alloc (.cells (Ey (.slice (some ⟨gl,0,none⟩) L.length lc) (.slice (some ⟨ge,0,none⟩) E.length ce) mr (B+3) s (.slice none 0 0) (.slice (some ⟨s+1,0,none⟩) 1 1) (.slice none 0 0) (s+2)) 91))
  generalize (((W.alloc (.map #[] 0)).alloc (.cells #[.map (some (B+1))] 83)).alloc (.map #[] 0)).alloc (.cells (Ey (.slice (some ⟨gl,0,none⟩) L.length lc) (.slice (some ⟨ge,0,none⟩) E.length ce) mr (B+3) s (.slice none 0 0) (.slice (some ⟨s+1,0,none⟩) 1 1) (.slice none 0 0) (s+2)) 91)=W4 at *
  have hD4:W4.heap[B+7]? = some (.deferred (some [])):=(a2.block _ (by omega)).trans hD
  rw[HE.out]
  refine⟨by simp,.inl ⟨_,_,rfl,run_takeDeferred hD4,?_⟩⟩
  have u3:It.AL (λk=>k=B+7) W4 (W4.putObj (B+7) (.deferred none)):=It.Ip (S:=λk=>k=B+7) rfl _
  have key:∀k,k<W4.heap.size->k≠B+7->(W4.putObj (B+7) (.deferred none)).heap[k]? = W4.heap[k]?:=λk h1 h2=>u3.block k h1 h2
  have bW:Below B w (W4.putObj (B+7) (.deferred none)):=(q.bel.trans (a2.mono (by omega))).trans (u3.below (by omega) (λk e=>by omega))
  refine⟨_,results_tmp rfl _ _ _,s+1+1+1,rfl,?_,?_⟩
  ·rw[HBE.out];exact bW
  ·rw[HBE.out]
   refine⟨B+3,s,s+2,_,_,_,_,zH (by omega) hgl2 HO.out ?_ ?_ ?_ ?_ ?_ ?_ ?_⟩
   ·exact(key (s+3) (by omega) (by omega)).trans (a3 3 (by omega))
   ·exact q.rin.low hgl2 ((a2.mono (by omega)).trans (u3.below (by omega) (λk e=>by omega)))
   ·exact e7.on ((key _ (by omega) (by omega)).trans (a2.block _ (by omega)))
   ·exact e8.on ((key _ (by omega) (by omega)).trans (a2.block _ (by omega)))
   ·exact⟨#[],0,(key s (by omega) (by omega)).trans (a3 0 (by omega)),rfl⟩
   ·exact⟨#[],0,(key (s+2) (by omega) (by omega)).trans (a3 2 (by omega)),rfl,List.nodup_nil,λe he=>by simp at he⟩
   ·exact(key (s+1) (by omega) (by omega)).trans (a3 1 (by omega))
 case body=>
  intro L' i hi D W hLe q hs hlp
  subst hLe
  rw[Ky] at hi
  obtain⟨r,x,g,p,e1,e2,e3,e4,e5,e6,e7,e8⟩:=q.st
  cases r with
  | nil=>simp[Fo.len] at e1;omega
  | cons n2 ks2 r2=>
  obtain⟨g1,g2⟩:=e3.head
  have hx2:hop E 1 (i+1)=some (x+1+(AJ ks2).length):=by rw[MS,e2];exact g2
  have hxl:=(z13z.1 g1).1
  have hkL:ks2.len<=L.length:=by
   have h1:=e3.kids
   have h3:=LQ ks2
   by_cases h0:(AJ ks2).length=0
   ·omega
   ·have h2:=(h1 ((AJ ks2).length-1) (by omega)).1
    rw[List.getElem?_eq_getElem (show (AJ ks2).length-1<(AJ ks2).length by omega)] at h2
    have:=(z13z.1 h2).1
    omega
  have b1:Below W.heap.size W (W.alloc (Ab n2 ks2.len)):=(z3z _ W).alloc (z1z _) _
  have nb:=World.cell?_alloc_new W #[.int .i64 n2.kind,.int .i64 n2.a,.int .i64 (ks2.len:Nat),.string n2.text,.int .i64 n2.int,.int .u64 n2.bits] 48
  obtain⟨c0,c1,c2,c3,c4,c5⟩:=q.rin.row.at g1
  simp only at c0 c1 c2 c3 c4 c5
  have hglW:=q.rin.gl.1
  have bz:Below W.heap.size W (W.alloc (.cells #[.int .i64 0,.int .i64 0,.int .i64 0,.string ⟨#[]⟩,.int .i64 0,.int .u64 0] 48)):=(z3z _ W).alloc (z1z _) _
  have d0:=(bz.cell (p:=⟨gl,x*6,none⟩) hglW).trans c0
  have d1:=(bz.cell (p:=⟨gl,x*6+1,none⟩) hglW).trans c1
  have d2:=(bz.cell (p:=⟨gl,x*6+2,none⟩) hglW).trans c2
  have d3:=(bz.cell (p:=⟨gl,x*6+3,none⟩) hglW).trans c3
  have d4:=(bz.cell (p:=⟨gl,x*6+4,none⟩) hglW).trans c4
  have d5:=(bz.cell (p:=⟨gl,x*6+5,none⟩) hglW).trans c5
  have r0:=AU q.row 0
  change _=some (Value.slice (some ⟨gl,0,none⟩) L.length lc) at r0
  have r0':=(bz.cell (p:=⟨B,0,none⟩) (z5z.1 q.row).1).trans r0
  have m1:(0:Int)<=(x:Nat):=by omega
  have m2:((x:Nat):Int)<L.length:=by omega
  have x0:(W.alloc (Ab n2 ks2.len)).cell? ⟨W.heap.size,0,none⟩=some (.int .i64 n2.kind):=nb 0
  have x2:(W.alloc (Ab n2 ks2.len)).cell? ⟨W.heap.size,2,none⟩=some (.int .i64 (ks2.len:Nat)):=nb 2
  have x3:(W.alloc (Ab n2 ks2.len)).cell? ⟨W.heap.size,3,none⟩=some (.string n2.text):=nb 3
  have y2:(W.alloc (Ab n2 ks2.len)).cell? ⟨B+2,0,none⟩=some (.map (some (B+1))):=AU ((b1.block _ (z5z.1 q.b2).1).trans q.b2) 0
  have y4:(W.alloc (Ab n2 ks2.len)).cell? ⟨B+4,0,none⟩=some (.map (some (B+3))):=AU ((b1.block _ (z5z.1 q.b4).1).trans q.b4) 0
  have e7':=e7.below b1
  have e8':=e8.below b1
  have HQ2:=hid q
  have HB1:=hid b1
  have HF:=hid (z0z e1 (z0z hx2 (z0z e3.rest (z0z e4 (z0z e5 e6)))))
  have hsW:=hs
  simp only[e2,Option.getD_some]
  clear q b1 nb bz e1 e2 e3 e4 e5 e6 e7 e8 g1 g2 hx2 hglW
  by_cases hk:n2.kind=2
  ·have c6:(n2.kind==2)=true:=by simpa using hk
   obtain⟨W2,hput,hm2,hg2⟩:=Lu (P:=prog) J5 II e7' n2.text x
   have hU2:It.AL (λk=>k=B+1) (W.alloc (Ab n2 ks2.len)) W2:=(It.AL.refl _ _).grown hg2 (λk e=>.inl (by cases e;rfl))
   obtain⟨f1,f2,f3,f4,f5,f6⟩:=HF.out
   rw[Fy,if_pos hk] at f5
   rw[Fg,if_pos hk] at f6
   have hm3:Bz W2 (B+3) p:=e8'.on (hU2.block _ e8'.lt (by omega))
   have fin:=hid (Nq.fin HQ2.out HE.out hs HB1.out (.inl rfl) hU2 (HQ2.out.next hgl2 (z1z _) HB1.out (.inl rfl) hU2 (by simp only[Fo.len] at f1;omega) f2 f3 f4.2 f5 f6 hm2 hm3))
   simp only[Ab] at *
   clear hm2 hm3 hg2 hU2 e7' e8' f1 f2 f3 f4 f5 f6 HF HQ2 HB1 hk
   gi_wp2_with (simp only[Oper.semAt];go_simp)
   exact fin.out _
  ·have c6:(n2.kind==2)=false:=by simpa using hk
   obtain⟨f1,f2,f3,f4,f5,f6⟩:=HF.out
   rw[Fy,if_neg hk] at f5
   rw[Fg,if_neg hk] at f6
   have hget:=VG (P:=prog) Xv II (OE _) e8' n2.text
   cases hh:DN p n2.text with
   | true=>
    rw[hh] at hget f6
    rw[if_pos rfl] at f6
    have hU2:It.AL (λk=>k=B+3) (W.alloc (Ab n2 ks2.len)) (W.alloc (Ab n2 ks2.len)):=It.AL.refl _ _
    have fin:=hid (Nq.fin HQ2.out HE.out hs HB1.out (.inr rfl) hU2 (HQ2.out.next hgl2 (z1z _) HB1.out (.inr rfl) hU2 (by simp only[Fo.len] at f1;omega) f2 f3 f4.2 f5 f6 e7' e8'))
    simp only[Ab] at *
    clear hU2 e7' e8' f1 f2 f3 f4 f5 f6 HF HQ2 HB1 hk hh
    gi_wp2_with (simp only[Oper.semAt];go_simp)
    exact fin.out _
   | false=>
    rw[hh] at hget f6
    rw[if_neg (by simp),<- ACC _ hh] at f6
    obtain⟨W2,hput,hm2,hg2⟩:=Lu (P:=prog) Xv II e8' n2.text (ks2.len-1)
    have hU2:It.AL (λk=>k=B+3) (W.alloc (Ab n2 ks2.len)) W2:=(It.AL.refl _ _).grown hg2 (λk e=>.inl (by cases e;rfl))
    have hm3:Bz W2 (B+1) g:=e7'.on (hU2.block _ e7'.lt (by omega))
    have hk0:=f4.1 hk
    have hkl:ks2.len<=1000000:=by omega
    have wk:IntKind.i64.wrap (((ks2.len:Nat):Int)-1)=((ks2.len-1:Nat):Int):=by rw[IntKind.wrap_i64];omega
    have fin:=hid (Nq.fin HQ2.out HE.out hs HB1.out (.inr rfl) hU2 (HQ2.out.next hgl2 (z1z _) HB1.out (.inr rfl) hU2 (by simp only[Fo.len] at f1;omega) f2 f3 f4.2 f5 f6 hm3 hm2))
    simp only[Ab] at *
    clear hm2 hm3 hg2 hU2 e7' e8' f1 f2 f3 f4 f5 f6 HF HQ2 HB1 hk hh hk0 hkl
    gi_wp2_with (simp only[Oper.semAt];go_simp)
    exact fin.out _
def IZ:Fo->Prop
 | .nil=>True
 | .cons n ks r=>n.kind≠3/\IZ ks/\IZ r
theorem G5:∀f g:Fo,IZ (f.app g)↔IZ f/\IZ g
 | .nil,g=>by simp[Fo.app,IZ]
 | .cons n ks r,g=>by
  simp only[Fo.app,IZ,G5 r g]
  exact⟨λ⟨a,b,c,d⟩=>⟨⟨a,b,c⟩,d⟩,λ⟨⟨a,b,c⟩,d⟩=>⟨a,b,c,d⟩⟩
theorem UU:∀f:Fo,IZ f->∀p ∈ AJ f,p.1.kind≠3
 | .nil,_,p,hp=>by simp[AJ] at hp
 | .cons n ks r,⟨h1,h2,h3⟩,p,hp=>by
  simp only[AJ,List.mem_cons,List.mem_append] at hp
  rcases hp with rfl|hp|hp
  ·exact h1
  ·exact UU ks h2 p hp
  ·exact UU r h3 p hp
theorem Hl{n:Nd}{ks:Fo}(h:n.kind≠3)(hk:IZ ks):IZ (.cons n ks .nil):=⟨h,hk,trivial⟩
theorem WM{so:So}{f:Fo}(h:Wt so f):so ≠ .u->so ≠ .us->IZ f:=by
 induction h with
 | leaf hk _=>exact λ_ _=>Hl (by omega) trivial
 | two hk _ _ _ ix iy=>exact λ_ _=>Hl (by omega) ((G5 _ _).2 ⟨ix nofun nofun,iy nofun nofun⟩)
 | one hk _ _ ix=>exact λ_ _=>Hl (by omega) (ix nofun nofun)
 | call hk _ _ ix=>exact λ_ _=>Hl (by omega) (ix nofun nofun)
 | enil=>exact λ_ _=>trivial
 | esnoc _ _ ix iy=>exact λ_ _=>(G5 _ _).2 ⟨ix nofun nofun,iy nofun nofun⟩
 | block hk _ _ ix=>exact λ_ _=>Hl (by omega) (ix nofun nofun)
 | snil=>exact λ_ _=>trivial
 | ssnoc _ _ ix iy=>exact λ_ _=>(G5 _ _).2 ⟨ix nofun nofun,iy nofun nofun⟩
 | s1 hk _ _ ix=>exact λ_ _=>Hl (by omega) (ix nofun nofun)
 | s0 hk _=>exact λ_ _=>Hl (by omega) trivial
 | store hk _ _ _ _ ix iy iv=>exact λ_ _=>Hl (by omega) ((G5 _ _).2 ⟨(G5 _ _).2 ⟨ix nofun nofun,iy nofun nofun⟩,iv nofun nofun⟩)
 | if2 hk _ _ _ ix iy=>exact λ_ _=>Hl (by omega) ((G5 _ _).2 ⟨ix nofun nofun,iy nofun nofun⟩)
 | if3 hk _ _ _ _ ix iy iv=>exact λ_ _=>Hl (by omega) ((G5 _ _).2 ⟨(G5 _ _).2 ⟨ix nofun nofun,iy nofun nofun⟩,iv nofun nofun⟩)
 | bib _ ix=>exact λ_ _=>ix nofun nofun
 | bii _ ix=>exact λ_ _=>ix nofun nofun
 | sti _ ix=>exact λ_ _=>ix nofun nofun
 | whil hk _ _ _ ix iy=>exact λ_ _=>Hl (by omega) ((G5 _ _).2 ⟨ix nofun nofun,iy nofun nofun⟩)
 | stw _ ix=>exact λ_ _=>ix nofun nofun
 | fore hk _ _ _ _ ix iy iv=>exact λ_ _=>Hl (by omega) ((G5 _ _).2 ⟨(G5 _ _).2 ⟨ix nofun nofun,iy nofun nofun⟩,iv nofun nofun⟩)
 | stf _ ix=>exact λ_ _=>ix nofun nofun
 | lfor _ hk _ ix=>
  intro _ _
  obtain⟨h1,h2,_⟩:=ix nofun nofun
  exact Hl h1 ⟨by omega,trivial,h2⟩
 | param hk _=>exact λ_ _=>Hl (by omega) trivial
 | pnil=>exact λ_ _=>trivial
 | psnoc _ _ ix iy=>exact λ_ _=>(G5 _ _).2 ⟨ix nofun nofun,iy nofun nofun⟩
 | glob _ _=>exact λe=>absurd rfl e
 | func _ _ _ _ _ _=>exact λe=>absurd rfl e
 | unil=>exact λ_ e=>absurd rfl e
 | usnoc _ _ _ _=>exact λ_ e=>absurd rfl e
def Jz:Fo->Prop
 | .nil=>True
 | .cons n ks r=>(n.kind=2\/n.kind=3)/\(n.kind≠2->0<ks.len)/\IZ ks/\Jz r
theorem Zb:∀ {f g:Fo},Jz f->Jz g->Jz (f.app g)
 | .nil,g,_,h=>h
 | .cons n ks r,g,⟨h1,h2,h3,h4⟩,h=>⟨h1,h2,h3,Zb h4 h⟩
theorem tC{b:Fo}(h:Wt .b b):b.len=1:=by
 cases h with
 | block _ _ _=>rfl
theorem Zy{so:So}{u:Fo}(h:Wt so u):(so=.us\/so=.u)->Jz u:=by
 induction h with
 | unil=>exact λ_=>trivial
 | usnoc _ _ ix iy=>exact λ_=>Zb (ix (.inl rfl)) (iy (.inr rfl))
 | glob hk _=>exact λ_=>⟨.inl hk,λe=>absurd hk e,trivial,trivial⟩
 | @func n l b hk _ hl hb _ _=>
  intro _
  exact⟨.inr hk,λ_=>by rw[Fo.Cq,tC hb];omega,(G5 _ _).2 ⟨WM hl nofun nofun,WM hb nofun nofun⟩,trivial⟩
 | _=>intro e;rcases e with e|e <;> cases e
theorem fU:∀ {u:Fo},Jz u->Od u
 | .nil,_=>trivial
 | .cons n ks r,⟨_,h2,_,h4⟩=>⟨h2,fU h4⟩
theorem nQ{b a:Nat}{x:Nat}(R:List (Nat × Nat))(h:b≠a)(c:Bool):JR ((if c=true then [(b,x)] else [])++R) a=JR R a:=by
 cases c with
 | false=>rfl
 | true=>
  unfold JR
  have:((b,x).1==a)=false:=by simpa using h
  simp only[if_true,List.cons_append,List.nil_append,List.find?_cons,this]
theorem Z9{L:List (Nd × Nat)}{E:List Nat}:∀ (f:Fo) (b:Nat),Jz f->Df L E b f->∀ (j:Nat) (n:Nd) (kids:Nat),(AJ f)[j]? = some (n,kids)->n.kind=3->∃ks:Fo,ks.len=kids/\Df L E (b+j+1) ks/\0<kids/\(AJ ks).length<(AJ f).length/\JR (Gs b f) (b+j)=Iq n ks
 | .nil,b,_,_,j,n,kids,h,_=>by simp[AJ] at h
 | .cons m ks r,b,⟨_,h2,h3,h4⟩,hl,0,n,kids,h,hk=>by
  simp only[AJ,z7z,Option.some.injEq,Prod.mk.injEq] at h
  obtain⟨rfl,rfl⟩:=h
  refine⟨ks,rfl,hl.kids,h2 (by omega),by simp[AJ];omega,?_⟩
  unfold Gs JR
  rw[if_pos hk]
  simp
 | .cons m ks r,b,⟨_,h2,h3,h4⟩,hl,j+1,n,kids,h,hk=>by
  simp only[AJ,z12z] at h
  by_cases hj:j<(AJ ks).length
  ·rw[List.getElem?_append_left hj] at h
   exact absurd hk (UU ks h3 _ (List.mem_of_getElem? h))
  ·rw[List.getElem?_append_right (by omega)] at h
   obtain⟨ks',e1,e2,e3,e4,e5⟩:=Z9 r _ h4 hl.rest _ n kids h hk
   rw[show b+1+(AJ ks).length+(j-(AJ ks).length)=b+(j+1) by omega] at e2 e5
   refine⟨ks',e1,e2,e3,by simp[AJ];omega,?_⟩
   rw[<- e5,Gs]
   have:=nQ (b:=b) (a:=b+(j+1)) (x:=Iq m ks) (Gs (b+1+(AJ ks).length) r) (by omega) (decide (m.kind=3))
   simpa using this
section
variable {ar:ByteArray->Option Nat} {pm:List (ByteArray × Nat)} {L:List (Nd × Nat)} {E:List Nat} {R:List (Nat × Nat)} {mr:Int}
theorem Gg{n:Nd}{ks:Fo}(hn:n.kind≠12)(hk:Keeps ar pm L E R mr false ks):Keeps ar pm L E R mr false (.cons n ks .nil):=Rl (kb:=false) n ks (λe=>absurd e hn) hk (λe=>by cases e)
theorem gK{so:So}{f:Fo}(h:Wt so f):Keeps ar pm L E R mr false f/\(so=.f->∀n ks,f=.cons n ks .nil->n.kind=11/\Keeps ar pm L E R mr false ks):=by
 induction h with
 | leaf hk _=>exact⟨Gg (by omega) (Jm _),nofun⟩
 | two hk _ _ _ ix iy=>exact⟨Gg (by omega) (Fe ix.1 iy.1),nofun⟩
 | one hk _ _ ix=>exact⟨Gg (by omega) ix.1,nofun⟩
 | call hk _ _ ix=>exact⟨Gg (by omega) ix.1,nofun⟩
 | enil=>exact⟨Jm _,nofun⟩
 | esnoc _ _ ix iy=>exact⟨Fe ix.1 iy.1,nofun⟩
 | block hk _ _ ix=>exact⟨Gg (by omega) ix.1,nofun⟩
 | snil=>exact⟨Jm _,nofun⟩
 | ssnoc _ _ ix iy=>exact⟨Fe ix.1 iy.1,nofun⟩
 | s1 hk _ _ ix=>exact⟨Gg (by omega) ix.1,nofun⟩
 | s0 hk _=>exact⟨Gg (by omega) (Jm _),nofun⟩
 | store hk _ _ _ _ ix iy iv=>exact⟨Gg (by omega) (Fe (Fe ix.1 iy.1) iv.1),nofun⟩
 | if2 hk _ _ _ ix iy=>exact⟨Gg (by omega) (Fe ix.1 iy.1),nofun⟩
 | if3 hk _ _ _ _ ix iy iv=>exact⟨Gg (by omega) (Fe (Fe ix.1 iy.1) iv.1),nofun⟩
 | bib _ ix=>exact⟨ix.1,nofun⟩
 | bii _ ix=>exact⟨ix.1,nofun⟩
 | sti _ ix=>exact⟨ix.1,nofun⟩
 | whil hk _ _ _ ix iy=>exact⟨Gg (by omega) (Fe ix.1 iy.1),nofun⟩
 | stw _ ix=>exact⟨ix.1,nofun⟩
 | fore hk _ _ _ _ ix iy iv=>
  refine⟨Gg (by omega) (Fe (Fe ix.1 iy.1) iv.1),λ_ m ks e=>?_⟩
  cases e
  exact⟨hk,Fe (Fe ix.1 iy.1) iv.1⟩
 | stf _ ix=>exact⟨ix.1,nofun⟩
 | @lfor n lb ks _ hk _ ix=>
  obtain⟨h1,h2⟩:=ix.2 rfl n ks rfl
  have h3:Keeps ar pm L E R mr true (.cons lb .nil .nil):=Rl (kb:=false) lb .nil (λ_=>rfl) (Jm _) (λe=>by cases e)
  exact⟨Rl (kb:=true) n _ (λe=>by omega) (Fe (f:=.cons lb .nil .nil) h3 h2.weak) (λ_=>h1),nofun⟩
 | param hk _=>exact⟨Gg (by omega) (Jm _),nofun⟩
 | pnil=>exact⟨Jm _,nofun⟩
 | psnoc _ _ ix iy=>exact⟨Fe ix.1 iy.1,nofun⟩
 | glob hk _=>exact⟨Gg (by omega) (Jm _),nofun⟩
 | func hk _ _ _ ix iy=>exact⟨Gg (by omega) (Fe ix.1 iy.1),nofun⟩
 | unil=>exact⟨Jm _,nofun⟩
 | usnoc _ _ ix iy=>exact⟨Fe ix.1 iy.1,nofun⟩
end
theorem vG(ar:ByteArray->Option Nat)(mr:Int){u:Fo}(hw:Wt .us u)(n:Nd)(hn:n.kind=1):∃r,Jf ar mr (.cons n u .nil)=some r:=by
 rw[ABs]
 obtain⟨res,h⟩:=ABq (ar:=ar) (pm:=Fg u []) (L:=AJ (.cons n u .nil)) (E:=Ed 0 (.cons n u .nil)) (R:=Gs 1 u) (mr:=mr) n u hn (gK hw).1 ⟨[],[],[Fy 1 u []],[],[]⟩ (by simp) 0
 rw[h]
 cases res with
 | inl x=>exact⟨x,rfl⟩
 | inr c=>exact⟨(0,0),rfl⟩
theorem fJ(x y:Int)(w:World):(Instr.field 26 (.agg #[.int .i64 x,.int .i64 y]) 0).run prog w=.ok (.int .i64 x) w:=by kernel_rfl
def LZ(L:List (Nd × Nat)):Prop:=∃t:ByteArray,∀w g cap,NR w (.slice (some ⟨g,0,none⟩) L.length cap) L->g<w.heap.size->Tabs w->MarksIn w->Calls prog 23 #[.slice (some ⟨g,0,none⟩) L.length cap] w λe w'=>e=.returned (.tuple #[.string t,.int .i64 0])/\Below w.heap.size w w'
theorem jE{w:World}{v:Value}{L:List (Nd × Nat)}(h:Cw w v L):NR w v L:=by
 obtain⟨g,cap,rfl,h1,h2,h3⟩:=h
 exact⟨g,cap,rfl,h2,λi p hp j hj=>h3 i p hp j hj⟩
theorem qC{w:World}{g cap:Nat}{L:List (Nd × Nat)}(h:NR w (.slice (some ⟨g,0,none⟩) L.length cap) L)(hg:g<w.heap.size):Cw w (.slice (some ⟨g,0,none⟩) L.length cap) L:=by
 obtain⟨g',cap',e,h2,h3⟩:=h
 simp only[Value.slice.injEq,Option.some.injEq,Addr.mk.injEq,true_and,and_true] at e
 obtain⟨rfl,rfl⟩:=e
 exact⟨g,cap,rfl,hg,h2,λi p hp j hj=>h3 i p hp j hj⟩
theorem QW{w:World}{gl n lc:Nat}{L:List (Nd × Nat)}(h:Cw w (.slice (some ⟨gl,0,none⟩) n lc) L):gl<w.heap.size:=by
 obtain⟨g,c,e,h1,_⟩:=h
 simp only[Value.slice.injEq,Option.some.injEq,Addr.mk.injEq,true_and,and_true] at e
 rw[e.1];exact h1
theorem AAE{w w0 w1:World}{o:Obj}(hs:w0.heap.size=w.heap.size+1)(g0:w0.heap[w.heap.size]? = some o)(h1:Below w0.heap.size w0 w1):w1.heap[w.heap.size]? = some o:=(h1.block _ (by omega)).trans g0
theorem jO{w w0 w1:World}(hs:w0.heap.size=w.heap.size+1)(b0:Below w.heap.size w w0)(h1:Below w0.heap.size w0 w1):Below w.heap.size w w1:=b0.trans (h1.mono (by omega))
theorem ABD{w w0 w1 w2 w3 w4:World}{o:Obj}(hs:w0.heap.size=w.heap.size+1)(g0:w0.heap[w.heap.size]? = some o)(h1:Below w0.heap.size w0 w1)(h2:Below w1.heap.size w1 w2)(h3:Below w2.heap.size w2 w3)(h4:Below w2.heap.size w3 w4):w4.heap[w.heap.size]? = some o:=by
 have s1:=h1.size
 have s2:=h2.size
 have s3:=h3.size
 exact(h4.block _ (by omega)).trans ((h3.block _ (by omega)).trans ((h2.block _ (by omega)).trans ((h1.block _ (by omega)).trans g0)))
theorem mK{w w0 w1 w2 w3 w4:World}(hs:w0.heap.size=w.heap.size+1)(b0:Below w.heap.size w w0)(h1:Below w0.heap.size w0 w1)(h2:Below w1.heap.size w1 w2)(h3:Below w2.heap.size w2 w3)(h4:Below w2.heap.size w3 w4):Below w.heap.size w w4:=by
 have s1:=h1.size
 have s2:=h2.size
 exact b0.trans ((h1.mono (by omega)).trans ((h2.mono (by omega)).trans ((h3.mono (by omega)).trans (h4.mono (by omega)))))
theorem AB1(n:Nd)(u:Fo)(hn1:n.kind=1)(ht:Jz u)(hfew:(AJ (.cons n u .nil)).length<=100000)(a:Nat)(m:Nd)(kids:Nat)(ha:(AJ (.cons n u .nil))[a]? = some (m,kids))(hk:m.kind=3) :
  ∃ks:Fo,ks.len=kids/\Df (AJ (.cons n u .nil)) (Ed 0 (.cons n u .nil)) (a+1) ks/\0<kids/\kids+4*((AJ ks).length+1)<=1000000/\JR (Gs 1 u) a=Iq m ks:=by
 cases a with
 | zero=>
  simp only[AJ,z7z,Option.some.injEq,Prod.mk.injEq] at ha
  rw[ha.1] at hn1
  omega
 | succ j=>
  have hl:=(Nz (.cons n u .nil)).kids
  rw[Nat.zero_add] at hl
  have ha':(AJ u)[j]? = some (m,kids):=by simpa [AJ] using ha
  obtain⟨ks,e1,e2,e3,e4,e5⟩:=Z9 u 1 ht hl j m kids ha' hk
  rw[show 1+j=j+1 by omega] at e2 e5
  have:=LQ ks
  have h5:(AJ (.cons n u .nil)).length=(AJ u).length+1:=by simp[AJ]
  exact⟨ks,e1,e2,e3,by omega,e5⟩
theorem YG(n:Nd)(u:Fo)(hn1:n.kind=1)(hw:Wt .us u)(L:List (Nd × Nat))(hL:AJ (.cons n u .nil)=L)(hfew:L.length<=100000)(hpr:LZ L)(mr:Int)(r:Int × Int)(hp:Jf Am mr (.cons n u .nil)=some r)(gl lc:Nat)(w:World)(ht:Tabs w)(hm:MarksIn w)(hN:Cw w (.slice (some ⟨gl,0,none⟩) L.length lc) L) :
  Calls prog 14 #[(.slice (some ⟨gl,0,none⟩) L.length lc),.int .i64 mr] w λe w'=>e=.returned (.agg #[.int .i64 r.1,.int .i64 r.2])/\Below w.heap.size w w':=by
 obtain⟨t,hpr⟩:=hpr
 have hgl:=QW hN
 have htops:=Zy hw (.inl rfl)
 have hlies:=(Nz (.cons n u .nil)).kids
 have hok:=Xh (.cons n u .nil)
 have hreg:=AB1 n u hn1 htops (by rw[hL];exact hfew)
 rw[hL] at hlies hok hreg
 have hpp:IG Am (Fg u []) L (Ed 0 (.cons n u .nil)) (Gs 1 u) mr L.length 0 ⟨[],[],[Fy 1 u []],[],[]⟩=some r:=by
  rw[<- hL];exact hp
 generalize Ed 0 (.cons n u .nil)=E at *
 have h0:L[0]? = some (n,u.len):=by rw[<- hL];simp[AJ]
 have b0:Below w.heap.size w (w.alloc (.cells #[.int .i64 0,.int .i64 0] 26)):=(z3z _ w).alloc (z1z _) _
 have g0:=z9z w (.cells #[.int .i64 0,.int .i64 0] 26)
 have hs0:(w.alloc (.cells #[.int .i64 0,.int .i64 0] 26)).heap.size=w.heap.size+1:=z8z ..
 have cP:=hpr (w.alloc (.cells #[.int .i64 0,.int .i64 0] 26)) gl lc ((jE hN).below b0 (λk e=>by simp only[Value.ownBlock] at e;cases e;exact hgl)) (by omega) (ht.below b0) (hm.below b0)
 have CR:=hid (show ∀w1,Below (w.alloc (.cells #[.int .i64 0,.int .i64 0] 26)).heap.size (w.alloc (.cells #[.int .i64 0,.int .i64 0] 26)) w1->Calls prog 15 #[(.slice (some ⟨gl,0,none⟩) L.length lc)] w1 λe w'=>∃ge,e=.returned (.agg #[(.slice (some ⟨gl,0,none⟩) L.length lc),.slice (some ⟨ge,0,none⟩) E.length L.length])/\Below w1.heap.size w1 w'/\EA gl lc ge L.length L E w' from λw1 hB=>(dM w1 gl lc L E ((hN.below b0).below hB) hok).mono (by
  rintro e w' ⟨ge,rfl,h1,h2,h3⟩
  exact⟨ge,rfl,h1,((hN.below b0).below hB).below h1,h2⟩))
 have CN:=hid (show ∀w2 ge,EA gl lc ge L.length L E w2->Calls prog 24 #[.agg #[(.slice (some ⟨gl,0,none⟩) L.length lc),.slice (some ⟨ge,0,none⟩) E.length L.length],.int .i64 mr] w2 λe w'=>∃pb,e=.returned (.pointer (some ⟨pb,0,none⟩))/\Below w2.heap.size w2 w'/\Calls prog 25 #[.pointer (some ⟨pb,0,none⟩)] w' λe w''=>e=.returned (.agg #[.int .i64 r.1,.int .i64 r.2])/\Below w2.heap.size w' w'' from λw2 ge hR=>(uW gl lc ge L.length L E hok n u h0 hlies (fU htops) w2 hR mr).mono (by
  rintro e w' ⟨pb,rfl,h1,mp,mt,mc,ov,sv,pv,bs,hz⟩
  exact⟨pb,rfl,h1,vF hz (by exact⟨rfl,rfl⟩) rfl rfl (Gs 1 u) hreg r hpp⟩))
 have HB0:=hid (z0z b0 (z0z g0 hs0))
 clear hpr hgl htops hlies hok hreg hpp h0 b0 g0 hs0 ht hm hN hfew hp hw hL hn1
 go_enter func14,ntmps14
 go_wp2_with (first|(go_at_call 23;(with_reducible refine cP.mono ?_);rintro e w1 ⟨rfl,hB1⟩;(have cR:=CR.out w1 hB1);(have HB1:=hid hB1);clear hB1 cP CR)|(go_at_call 15;(with_reducible refine cR.mono ?_);rintro e w2 ⟨ge,rfl,hB2,hR2⟩;(have cN:=CN.out w2 ge hR2);(have HB2:=hid hB2);clear hB2 hR2 cR CN)|(go_at_call 24;(with_reducible refine cN.mono ?_);rintro e w3 ⟨pb,rfl,hB3,cF⟩;(have HB3:=hid hB3);clear hB3 cN)|(go_at_call 25;(with_reducible refine cF.mono ?_);rintro e w4 ⟨rfl,hB4⟩;(have g4:=ABD HB0.out.2.2 HB0.out.2.1 HB1.out HB2.out HB3.out hB4);(have bb:=mK HB0.out.2.2 HB0.out.1 HB1.out HB2.out HB3.out hB4);(have e0:=cell_of_row _ _ 0 _ _ _ g4);(have e1:=cell_of_row _ _ 1 _ _ _ g4);(have z0:=thaw g4 0);(have z1:=thaw g4 1);(simp only[List.getElem?_toArray,z7z,z12z] at e0 e1);(have G4:=hid g4);(have HBB:=hid bb);clear g4 bb cF hB4))
 refine bodyPost_ret (P:=prog) (fn:=Tryz.f14) (Nk rfl _ _ w.heap.size _ _ (0,0) rfl (Ik G4.out _ _)) rfl ?_
 exact⟨rfl,(HBB.out.setCell (p:=⟨w.heap.size,0,none⟩) (z1z _) _).setCell (p:=⟨w.heap.size,1,none⟩) (z1z _) _⟩
theorem Ul(n:Nd)(u:Fo)(hn1:n.kind=1)(hw:Wt .us u)(L:List (Nd × Nat))(hL:AJ (.cons n u .nil)=L)(hfew:L.length<=100000)(hpr:LZ L)(r:Int × Int)(hp:Jf Am 64 (.cons n u .nil)=some r)(gl lc:Nat)(w:World)(ht:Tabs w)(hm:MarksIn w)(hN:Cw w (.slice (some ⟨gl,0,none⟩) L.length lc) L) :
  Calls prog 13 #[(.slice (some ⟨gl,0,none⟩) L.length lc)] w λe w'=>e=.returned (.agg #[.int .i64 r.1,.int .i64 r.2])/\Below w.heap.size w w':=by
 have b0:Below w.heap.size w (w.alloc (.cells #[.int .i64 0,.int .i64 0] 26)):=(z3z _ w).alloc (z1z _) _
 have g0:=z9z w (.cells #[.int .i64 0,.int .i64 0] 26)
 have hs0:(w.alloc (.cells #[.int .i64 0,.int .i64 0] 26)).heap.size=w.heap.size+1:=z8z ..
 have cF:=YG n u hn1 hw L hL hfew hpr 64 r hp gl lc (w.alloc (.cells #[.int .i64 0,.int .i64 0] 26)) (ht.below b0) (hm.below b0) (hN.below b0)
 have HB0:=hid (z0z b0 (z0z g0 hs0))
 clear hpr b0 g0 hs0 ht hm hN hfew hp hw hL hn1
 go_enter func13,ntmps13
 go_wp2_with (go_at_call 14;(with_reducible refine cF.mono ?_);rintro e w4 ⟨rfl,hB4⟩;(have g4:=AAE HB0.out.2.2 HB0.out.2.1 hB4);(have bb:=jO HB0.out.2.2 HB0.out.1 hB4);(have e0:=cell_of_row _ _ 0 _ _ _ g4);(have e1:=cell_of_row _ _ 1 _ _ _ g4);(have z0:=thaw g4 0);(have z1:=thaw g4 1);(simp only[List.getElem?_toArray,z7z,z12z] at e0 e1);(have G4:=hid g4);(have HBB:=hid bb);clear g4 bb cF hB4)
 refine bodyPost_ret (P:=prog) (fn:=Tryz.f13) (Nk rfl _ _ w.heap.size _ _ (0,0) rfl (Ik G4.out _ _)) rfl ?_
 exact⟨rfl,(HBB.out.setCell (p:=⟨w.heap.size,0,none⟩) (z1z _) _).setCell (p:=⟨w.heap.size,1,none⟩) (z1z _) _⟩
theorem gD(l:List UInt8):∀ (f a:Nat),l.length+1<=f+a->0<f->∃xs z,Dx f l a=xs++[z]/\(z.c=0->z.t.kind=7)
 | 0,a,h,h0=>by omega
 | f+1,a,h,h0=>by
  unfold Dx
  split
  ·exact⟨[],_,rfl,λ_=>rfl⟩
  rename_i h1
  split
  ·exact⟨[],_,rfl,λe=>by cases e⟩
  rename_i h2
  split
  ·rename_i h3
   exact⟨[],_,rfl,λe=>absurd e h3⟩
  obtain⟨xs,z,e,hz⟩:=gD l f (a+(AQ (l.drop a)).size) (by omega) (by omega)
  split
  ·exact⟨_::xs,z,by rw[e];rfl,hz⟩
  ·exact⟨xs,z,e,hz⟩
theorem kL(l:List UInt8):Gd ⟨Au l,0⟩:=by
 unfold Gd Au
 simp only
 split
 ·exact⟨[],_,rfl,λe=>by cases e⟩
 ·exact gD l _ 0 (by omega) (by omega)
theorem Xi{l:List UInt8}{f:Ci}(h:Ends l (.error f)):f.1≠0:=by
 obtain⟨n,h⟩:=h
 exact(Uv n (.pg .nil) _ (kL l) trivial _ h).1 f rfl
theorem Zi:∀ (n:Nat) (l:Fo) (s:Cs) (fo:Fo) (s':Cs),P n (.pg l) s=some (.ok (fo,s'))->∃nd m,fo=Fo.one nd m
 | 0,l,s,fo,s',h=>by cases h
 | n+1,l,s,fo,s',h=>by
  have h:(BJ.bind λy=>if y.t.kind=7 then Pm.pure (Fo.one ⟨1,0,⟨#[]⟩,0,0⟩ l) else (P n (if AP y.t=Lh then .gl else .fu)).bind λx=>P n (.pg (l.app x))) s=some (.ok (fo,s')):=h
  rcases CQ h with⟨e,_,h1⟩|⟨y,_,h1⟩
  ·cases h1
  ·split at h1
   ·have:=Ag h1
    cases this
    exact⟨_,_,rfl⟩
   ·rcases Af h1 with⟨e,_,h2⟩|⟨x,s1,_,h2⟩
    ·cases h2
    ·exact Zi n _ _ _ _ h2
end Go.Proofs.YtjplieobnknnpaaGreatDoor.W.Tr

import Derived.Test.YtgchnkgolclmgaaGreatDoorJX
open List renaming length_append → eU, length_nil → gI
open Array renaming getElem?_eq_some_iff → aY
open Nat renaming le_refl → aL, le_trans → dQ
open Go.World renaming alloc_heap_new → ay, size_alloc → bY
open Go.RowKit.Below renaming heap_setCell → aH, refl → dI
open And renaming intro → bO
open Go.Proofs.Tryz
set_option maxRecDepth 1000000
set_option maxHeartbeats 8000000
namespace Go.Proofs.YtgchnkgolclmgaaGreatDoor.W.Tr
open Go.ChangeShapes Go.WideShapes Go.RowKit Go.Shelf
set_option linter.unusedVariables false
set_option linter.unusedSimpArgs false
theorem fQ{W:World}{b:Nat}{e:TypeId}{size:Nat}{v:Value}{n:Nat}{xs:List Value}(h:W.ownsRow b e size v n xs){k:Nat}(hk:v.ownBlock=some k):∃cur,W.heap[k]? = some (.cells cur e (0,0)):=by
 rcases h.2 with⟨rfl,_⟩|⟨g,cap,cur,rfl,h2,h3,_⟩
 ·cases hk
 ·cases hk;exact⟨cur,h3⟩
structure Rq (w W:World) (u r:Value) (ls:List Nat) (dn:List (Nd × Nat)):Prop where
 bf:Below w.heap.size w W
 sz:w.heap.size+2<=W.heap.size
 box:W.heap[w.heap.size+1]? = some (.cells #[u] 68 (0,0))
 row:W.ownsRow w.heap.size 54 1 u ls.length (ls.map ptr)
 out:W.ownsRow w.heap.size 31 6 r dn.length (eH dn)
section
variable {w W W':World} {u r u' r':Value} {ls:List Nat} {dn:List (Nd × Nat)} {S:Nat->Prop}
theorem Rq.ub(q:Rq w W u r ls dn){k:Nat}(e:u.ownBlock=some k):w.heap.size<=k/\k<W.heap.size/\k≠w.heap.size+1/\r.ownBlock≠some k:=by
 obtain⟨cur,hc⟩:=fQ q.row e
 refine⟨(q.row.lt k e).1,(q.row.lt k e).2,?_,?_⟩
 ·rintro rfl
  rw[q.box] at hc;cases hc
 ·intro er
  obtain⟨cur',hc'⟩:=fQ q.out er
  rw[hc] at hc';cases hc'
theorem Rq.rb(q:Rq w W u r ls dn){k:Nat}(e:r.ownBlock=some k):w.heap.size<=k/\k<W.heap.size/\k≠w.heap.size+1/\u.ownBlock≠some k:=by
 obtain⟨cur,hc⟩:=fQ q.out e
 refine⟨(q.out.lt k e).1,(q.out.lt k e).2,?_,?_⟩
 ·rintro rfl
  rw[q.box] at hc;cases hc
 ·intro er
  exact(q.ub er).2.2.2 e
theorem Rq.keep(q:Rq w W u r ls dn)(hU:It.bL S W W')(hS:∀k,S k->w.heap.size<=k/\k≠w.heap.size+1/\u.ownBlock≠some k/\r.ownBlock≠some k):Rq w W' u r ls dn:=by
 have z:=q.sz
 refine⟨q.bf.trans (hU.below (by omega) (λk e=>(hS k e).1)),dQ z hU.size,(hU.block _ (by omega) (λe=>(hS _ e).2.1 rfl)).trans q.box,bD q.row (λk e=>hU.block k (q.ub e).2.1 (λg=>(hS k g).2.2.1 e)),bD q.out (λk e=>hU.block k (q.rb e).2.1 (λg=>(hS k g).2.2.2 e))⟩
theorem Rq.below(q:Rq w W u r ls dn)(hB:Below W.heap.size W W'):Rq w W' u r ls dn:=
 q.keep (S:=λ_=>False) (It.bL.of_below hB) (λk e=>e.elim)
theorem Rq.set{ls':List Nat}(q:Rq w W u r ls dn)(h:W.ownsRow w.heap.size 54 1 u' ls'.length (ls'.map ptr)):Rq w (W.setCell ⟨w.heap.size+1,0,none⟩ u') u' r ls' dn:=by
 have z:=q.sz
 have hn:∀k,u'.ownBlock=some k->k≠w.heap.size+1:=by
  rintro k e rfl
  obtain⟨cur,hc⟩:=fQ h e
  rw[q.box] at hc;cases hc
 refine⟨q.bf.setCell (by show w.heap.size<=w.heap.size+1;omega) _,by simp[World.setCell];exact z,aM (c:=[u]) q.box 0 u',bD h (λk e=>aH _ _ _ _ (hn k e)),bD q.out (λk e=>aH _ _ _ _ (q.rb e).2.2.1)⟩
theorem Rq.pop{g c x:Nat}{L:List Nat}(q:Rq w W (.slice (some ⟨g,0,none⟩) (L.length+1) c) r (L++[x]) dn):Rq w (W.setCell ⟨w.heap.size+1,0,none⟩ (.slice (some ⟨g,0,none⟩) L.length c)) (.slice (some ⟨g,0,none⟩) L.length c) r L dn:=by
 refine q.set ?_
 rcases q.row.2 with⟨h0,_⟩|⟨g',cap,cur,h0,h2,h3,h4,h5,h6,h7⟩
 ·cases h0
 ·simp only[eU,List.length_cons,gI,Value.slice.injEq,Option.some.injEq,Addr.mk.injEq,true_and,and_true] at h0
  obtain⟨rfl,rfl⟩:=h0
  refine⟨by simp,.inr ⟨g,c,cur,rfl,h2,h3,?_,h5,h6,?_⟩⟩
  ·simp at h4;omega
  ·have h8:=congrArg (List.take L.length) h7
   have e9:((L++[x]).map ptr).take L.length=L.map ptr:=by
    rw[List.map_append,List.take_append_of_le_length (by simp),List.take_of_length_le (by simp)]
   rw[List.take_take,e9,show min L.length ((L++[x]).length*1)=L.length by simp] at h8
   rw[Nat.mul_one,h8]
theorem Rq.node{p:Nd × Nat}(q:Rq w W u r ls dn)(h2:W'.ownsRow w.heap.size 31 6 r' (dn.length+1) (eH dn++(qM p).toList))(h3:(W.alloc (.cells (qM p) 31)).grownBy W' r.ownBlock):Rq w W' u r' ls (dn++[p]):=by
 have z:=q.sz
 have hU:It.bL (λk=>r.ownBlock=some k) W W':=((It.bL.refl _ W).alloc _).trans' ((It.bL.refl _ _).grown h3 (λk e=>.inl e))
 refine⟨q.bf.trans (hU.below (by omega) (λk e=>(q.rb e).1)),dQ z hU.size,(hU.block _ (by omega) (λe=>(q.rb e).2.2.1 rfl)).trans q.box,bD q.row (λk e=>hU.block k (q.ub e).2.1 (q.ub e).2.2.2),?_⟩
 rw[ED,eU]
 exact h2
theorem Rq.kid{x:Nat}{w1:World}(q:Rq w W u r ls dn)(h2:w1.ownsRow w.heap.size 54 1 u' (ls.length+1) (ls.map ptr++[ptr x]))(h3:(W.alloc (.cells #[ptr x] 54)).grownBy w1 u.ownBlock):Rq w (w1.setCell ⟨w.heap.size+1,0,none⟩ u') u' r (ls++[x]) dn:=by
 have z:=q.sz
 have hU:It.bL (λk=>u.ownBlock=some k) W w1:=((It.bL.refl _ W).alloc _).trans' ((It.bL.refl _ _).grown h3 (λk e=>.inl e))
 have hb:w1.heap[w.heap.size+1]? = some (.cells #[u] 68 (0,0)):=(hU.block _ (by omega) (λe=>(q.ub e).2.2.1 rfl)).trans q.box
 have hn:∀k,u'.ownBlock=some k->k≠w.heap.size+1:=by
  rintro k e rfl
  obtain⟨cur,hc⟩:=fQ h2 e
  rw[hb] at hc;cases hc
 refine⟨(q.bf.trans (hU.below (by omega) (λk e=>(q.ub e).1))).setCell (by show w.heap.size<=w.heap.size+1;omega) _,by have:=hU.size;simp[World.setCell];omega,aM (c:=[u]) hb 0 u',?_,bD q.out (λk e=>(aH _ _ _ _ (q.rb e).2.2.1).trans (hU.block k (q.rb e).2.1 (q.rb e).2.2.2))⟩
 rw[eU,List.map_append]
 exact bD h2 (λk e=>aH _ _ _ _ (hn k e))
end
theorem Kl(w:World)(b:Nat):Rq w ((w.alloc (.cells #[ptr b] 54)).alloc (.cells #[.slice (some ⟨w.heap.size,0,none⟩) 1 1] 68)) (.slice (some ⟨w.heap.size,0,none⟩) 1 1) (.slice none 0 0) [b] []:=by
 have n1:=ay w (.cells #[ptr b] 54)
 have n2:=ay (w.alloc (.cells #[ptr b] 54)) (.cells #[.slice (some ⟨w.heap.size,0,none⟩) 1 1] 68)
 rw[bY] at n2
 refine⟨((dI _ w).alloc (aL _) _).alloc (by simp) _,by simp,n2,⟨rfl,.inr ⟨w.heap.size,1,_,rfl,aL _,(Below.heap_alloc _ _ _ (by simp)).trans n1,aL _,by unfold maxLen;omega,rfl,rfl⟩⟩,World.ownsRow_nil _ _ _ _⟩
theorem Marks.lt{B:Nat}{w:World}:∀ds,Marks B w ds->∀d ∈ ds,∃r,d={ target:=.collected r,args:=#[] }/\r<w.heap.size
 | [],_,d,hd=>by cases hd
 | d0::ds,⟨⟨r,h1,h2,h3,h4⟩,h5⟩,d,hd=>by
  rcases List.mem_cons.1 hd with rfl|hd
  ·exact⟨r,h1,(aY.1 h3).1⟩
  ·exact Marks.lt ds h5 d hd
structure Kd (w W4:World) (sb:Nat) (kv r:Value) (L bk:List Nat) (dn:List (Nd × Nat)) (i:Nat) (D:Nat->Prop) (W:World):Prop where
 q:∃u,Rq w W u r (L++bk.reverse.take i) dn/\(∀k,u.ownBlock=some k->k<W4.heap.size\/W4.heap.size+2<=k)/\∀k,D k↔k=w.heap.size+1\/u.ownBlock=some k
 box:W.heap[sb]? = some (.cells #[kv] 68 (0,0))
 lt:sb<W4.heap.size
 lo:w.heap.size+2<=sb
 sz:W4.heap.size<=W.heap.size
 rb:∀k,r.ownBlock=some k->k<W4.heap.size
 keep:∀k:Nat,W4.heap[k]? = some (.deferred (some []))->W.heap[k]? = some (.deferred (some []))
section
variable {w W4 W W':World} {sb i x:Nat} {kv r u u':Value} {L bk:List Nat} {dn:List (Nd × Nat)} {D:Nat->Prop}
theorem Kd.upd(h:Kd w W4 sb kv r L bk dn i D W)(hu:It.bL (λk=>k=W4.heap.size+1) W W'):Kd w W4 sb kv r L bk dn i D W':=by
 obtain⟨u,q,h1,h2⟩:=h.q
 have:=h.lt
 have:=h.lo
 have:=h.sz
 refine⟨⟨u,q.keep hu (λk e=>⟨by omega,by omega,λg=>by have:=h1 k g;omega,λg=>by have:=h.rb k g;omega⟩),h1,h2⟩,(hu.block _ (by omega) (by omega)).trans h.box,h.lt,h.lo,dQ h.sz hu.size,h.rb,λk hk=>(hu.block k ?_ ?_).trans (h.keep k hk)⟩
 ·exact(aY.1 (h.keep k hk)).1
 ·have:=(aY.1 hk).1;omega
theorem Hl(bk:List Nat)(i:Nat)(hi:i<bk.length):bk.reverse.take (i+1)=bk.reverse.take i++[bk.getD (bk.length-1-i) 0]:=by
 rw[List.take_succ_eq_append_getElem (by simpa using hi),List.getElem_reverse,List.getD_eq_getElem?_getD,List.getElem?_eq_getElem (by omega)]
 rfl
end
def aAR:Value->Nat
 | .slice _ n _=>n
 | _=>0
theorem Ko(w:World)(b:Nat)(fo:Fo)(hf:bg w (λ_=>True) [b] fo)(hbig:(dM fo).length<=1000000) :
  Calls prog 21 #[ptr b] w λe w'=>∃r,e=.returned r/\Below w.heap.size w w'/\w'.ownsRow w.heap.size 31 6 r (dM fo).length (eH (dM fo)):=by
 obtain⟨T,hT⟩:∃T,dM fo=T:=⟨_,rfl⟩
 rw[hT] at hbig ⊢
 have cb:=Td
 have q0:=Kl w b
 refine(callsIn_wide (n:=9)).1 ?_
 refine callsIn_of_wp_marks func21 rfl trivial ?_ rfl
 refine wpIn_wide.2 ?_
 simp only[ntmps21,List.size_toArray,List.length_cons,gI,Nat.reduceAdd,Nat.reduceSub,Array.replicate_succ,Array.replicate_zero,List.push_toArray,List.append_toArray,List.nil_append,List.cons_append]
 go_upto_region 3 with fail
 generalize World.alloc (World.alloc w _) _=W0 at *
 refine wp_loop (λa' w'=>(a'.tmps.size=51/\a'.tmps.getD 4 undef=.pointer (some ⟨w.heap.size+1,0,none⟩))/\Marks w.heap.size w' a'.defers/\∃ (u:Value) (ls:List Nat) (dn:List (Nd × Nat)) (fo:Fo),Rq w w' u (a'.tmps.getD 3 undef) ls dn/\bg w (λ_=>True) ls.reverse fo/\dn++dM fo=T) (λa' _=>T.length-aAR (a'.tmps.getD 3 undef)) ?_ ?_
 ·exact⟨⟨rfl,rfl⟩,trivial,_,[b],[],fo,q0,hf,hT⟩
 clear q0 hf hT fo
 rintro⟨t,ds⟩ wr ⟨⟨hs,h4⟩,hM,u,ls,dn,fo,q,hf,hT⟩
 obtain⟨x2,e2⟩:∃x,t.getD 2 undef=x:=⟨_,rfl⟩
 obtain⟨r,e3⟩:∃x,t.getD 3 undef=x:=⟨_,rfl⟩
 simp only at hs h4 hM q ⊢
 rw[e3] at q ⊢
 obtain⟨uu,rfl⟩:=OX t hs e2 e3 h4
 clear hs h4 e2 e3
 unfold Uz
 obtain⟨ro,rc,rfl⟩:=aI q.out
 obtain⟨o,c,rfl⟩:=aI q.row
 have co:wr.cell? ⟨w.heap.size+1,0,none⟩=some (.slice o ls.length c):=aA q.box 0
 have zo:=aC q.box 0
 have HM:=hid hM
 have HT:=hid hT
 have HQ:=hid q
 have HF:=hid hf
 clear hM hT
 cases fo with
 | nil=>
  have hl:ls=[]:=by
   have:ls.reverse=[]:=hf
   simpa using this
  subst hl
  clear q hf
  simp only[gI] at co
  go_wp2
  refine l9 ds wr HM.out (λw' hu=>?_)
  refine⟨.slice ro dn.length rc,by simp[results,results21,go_sem],_,rfl,HQ.out.bf.trans (hu.below (by have:=HQ.out.sz;omega) (λk e=>e.1)),?_⟩
  have eT:dn=T:=by have:=HT.out;simpa [dM] using this
  rw[<- eT]
  refine bD HQ.out.out (λk e=>hu.block k (HQ.out.rb e).2.1 ?_)
  rintro⟨_,ex⟩
  obtain⟨cur,hc⟩:=fQ HQ.out.out e
  rw[hc] at ex;cases ex
 | cons n ks rs=>
  obtain⟨bb,bs',v,bk,h1,-,h3,h4,-,h6,h7⟩:=hf
  obtain⟨L,rfl⟩:∃L,ls=L++[bb]:=⟨bs'.reverse,by rw[<- List.reverse_inj,h1];simp⟩
  have hL:bs'=L.reverse:=by simpa using h1.symm
  subst hL
  obtain⟨ko,kc,rfl⟩:=aI h4
  have lb:=(aY.1 h3).1
  have hb:=(q.bf.block bb lb).trans h3
  have cB:=aA hb
  have c0:wr.cell? ⟨bb,0,none⟩=some (.int .i64 n.kind):=cB 0
  have c1:wr.cell? ⟨bb,1,none⟩=some (.int .i64 n.a):=cB 1
  have c2:wr.cell? ⟨bb,2,none⟩=some (.int .i64 0):=cB 2
  have c3:wr.cell? ⟨bb,3,none⟩=some (.string n.text):=cB 3
  have c4:wr.cell? ⟨bb,4,none⟩=some (.int .i64 n.int):=cB 4
  have c5:wr.cell? ⟨bb,5,none⟩=some (.int .u64 n.bits):=cB 5
  have c6:wr.cell? ⟨bb,6,none⟩=some (.slice ko bk.length kc):=cB 6
  obtain⟨g,cc,eo,hcc,hlast⟩:=GK q.row (i:=L.length) (by simp)
  simp only[Value.slice.injEq,true_and] at eo
  obtain⟨rfl,rfl⟩:=eo
  have hll:(L++[bb]).length=L.length+1:=by simp
  rw[show (L++[bb]).getD L.length 0=bb by simp] at hlast
  simp only[hll] at co hcc
  have H3:=hid h3
  have H4:=hid h4
  have H6:=hid h6
  have H7:=hid h7
  have hlen:L.length+1+dn.length<=1000000:=by
   have e1:=congrArg List.length HT.out
   have e2:=wV (Fo.cons n ks rs)
   have e3:=HF.out.len
   simp at e1 e3
   omega
  have z:=q.sz
  have nb:¬bb=w.heap.size+1:=by omega
  have nb':¬w.heap.size+1=bb:=by omega
  have o1:IntKind.i64.wrap (((L.length+1:Nat):Int)-1)=L.length:=by rw[IntKind.wrap_i64];omega
  have o2:(0:Int)<=L.length:=by omega
  have o3:(L.length:Int)<((L.length+1:Nat):Int):=by omega
  have o4:(0:Int)<((L.length+1:Nat):Int):=by omega
  rw[hll] at q
  have q5:=hid q.pop
  clear q h1 h3 h4 h6 h7 hb cB
  go_upto_region 6 with fail
  have xY:Hid (Marks w.heap.size (wr.setCell ⟨w.heap.size+1,0,none⟩ (.slice (some ⟨g,0,none⟩) L.length c)) ds):=by
   refine Marks.kept ?_ ds HM.out
   intro k _ hk
   refine aH _ _ _ _ ?_
   rintro rfl
   rw[HQ.out.box] at hk;cases hk
  clear HQ HM co zo hlast c0 c1 c2 c3 c4 c5 c6 z hcc
  generalize wr.setCell _ _=W1 at *
  have hb:=(q5.out.bf.block bb lb).trans H3.out
  have cB:=aA hb
  have c0:W1.cell? ⟨bb,0,none⟩=some (.int .i64 n.kind):=cB 0
  have c1:W1.cell? ⟨bb,1,none⟩=some (.int .i64 n.a):=cB 1
  have c2:W1.cell? ⟨bb,2,none⟩=some (.int .i64 0):=cB 2
  have c3:W1.cell? ⟨bb,3,none⟩=some (.string n.text):=cB 3
  have c4:W1.cell? ⟨bb,4,none⟩=some (.int .i64 n.int):=cB 4
  have c5:W1.cell? ⟨bb,5,none⟩=some (.int .u64 n.bits):=cB 5
  have c6:W1.cell? ⟨bb,6,none⟩=some (.slice ko bk.length kc):=cB 6
  have z:=q5.out.sz
  have n1:¬bb=W1.heap.size:=by omega
  have n2:¬W1.heap.size=bb:=by omega
  clear cB
  go_upto_region 7 with fail
  have bN:Below W1.heap.size W1 (W1.alloc (.cells #[.int .i64 n.kind,.int .i64 n.a,.int .i64 0,.string n.text,.int .i64 n.int,.int .u64 n.bits] 31)):=(dI _ W1).alloc (aL _) _
  have hn0:=ay W1 (.cells #[.int .i64 n.kind,.int .i64 n.a,.int .i64 0,.string n.text,.int .i64 n.int,.int .u64 n.bits] 31)
  have hb2:=aF hb bN
  have q6:=hid (q5.out.below bN)
  have HM2:Hid (Marks w.heap.size (W1.alloc (.cells #[.int .i64 n.kind,.int .i64 n.a,.int .i64 0,.string n.text,.int .i64 n.int,.int .u64 n.bits] 31)) ds):=Marks.kept (λk _ hk=>bN.block k (aY.1 hk).1) ds xY.out
  have sz2:(W1.alloc (.cells #[.int .i64 n.kind,.int .i64 n.a,.int .i64 0,.string n.text,.int .i64 n.int,.int .u64 n.bits] 31)).heap.size=W1.heap.size+1:=by simp
  have nu:=hid (λk e=>(q5.out.ub (k:=k) e).2.1)
  have nr:=hid (λk e=>(q5.out.rb (k:=k) e).2.1)
  clear c0 c1 c2 c3 c4 c5 c6 q5 xY hb bN
  generalize hnb:W1.heap.size=Jp at *
  generalize W1.alloc _=W2 at *
  clear hnb
  have c6:W2.cell? ⟨bb,6,none⟩=some (.slice ko bk.length kc):=aA hb2 6
  have d2:W2.cell? ⟨Jp,2,none⟩=some (.int .i64 0):=aA hn0 2
  have zn:=aC hn0
  go_upto_region 8 with fail
  clear c6 d2 zn
  have hn1:=aM (c:=[.int .i64 n.kind,.int .i64 n.a,.int .i64 0,.string n.text,.int .i64 n.int,.int .u64 n.bits]) hn0 2 (.int .i64 (bk.length:Nat))
  have u3:It.bL (λk=>k=Jp) W2 (W2.setCell ⟨Jp,2,none⟩ (.int .i64 (bk.length:Nat))):=(It.bL.refl (λk=>k=Jp) W2).setCell (p:=⟨Jp,2,none⟩) (.inl rfl) _
  have q7:=hid (q6.out.keep u3 (λk e=>⟨by omega,by omega,λg=>by have:=nu.out _ g;omega,λg=>by have:=nr.out _ g;omega⟩))
  have HM3:Hid (Marks w.heap.size (W2.setCell ⟨Jp,2,none⟩ (.int .i64 (bk.length:Nat))) ds):=by
   refine Marks.kept ?_ ds HM2.out
   intro k _ hk
   refine aH _ _ _ _ ?_
   rintro rfl
   rw[hn0] at hk;cases hk
  clear u3 q6 HM2 hn0 hb2 n1 n2 sz2
  generalize W2.setCell _ _=W3 at *
  have e0:W3.cell? ⟨Jp,0,none⟩=some (.int .i64 n.kind):=aA hn1 0
  have e1:W3.cell? ⟨Jp,1,none⟩=some (.int .i64 n.a):=aA hn1 1
  have e2:W3.cell? ⟨Jp,2,none⟩=some (.int .i64 (bk.length:Nat)):=aA hn1 2
  have e3:W3.cell? ⟨Jp,3,none⟩=some (.string n.text):=aA hn1 3
  have e4:W3.cell? ⟨Jp,4,none⟩=some (.int .i64 n.int):=aA hn1 4
  have e5:W3.cell? ⟨Jp,5,none⟩=some (.int .u64 n.bits):=aA hn1 5
  obtain⟨v2,w1,hrun,ho2,hg,hk⟩:=D8 W3 22 (.slice ro dn.length rc) dn.length _ q7.out.out (by have:=q7.out.sz;omega) (n,bk.length) (by omega)
  have q8:=hid (q7.out.node ho2 hg)
  obtain⟨vo,vc,rfl⟩:=aI ho2
  have HM4:Hid (Marks w.heap.size w1 ds):=by
   have hU:It.bL (λk=>(Value.slice ro dn.length rc).ownBlock=some k) W3 w1:=((It.bL.refl _ W3).alloc _).trans' ((It.bL.refl _ _).grown hg (λk e=>.inl e))
   refine Marks.kept ?_ ds HM3.out
   intro k _ hk
   refine hU.block k (aY.1 hk).1 (λe=>?_)
   obtain⟨cur,hc⟩:=fQ q7.out.out e
   rw[hc] at hk;cases hk
  unfold qM at hrun
  clear ho2 hg hk q7 HM3 hn1
  go_upto_region 9 with((with_reducible refine Lib.wp_append_run _ (.tmp 35) (.tmp 37) 22 22 (by with_reducible rfl) ?vs ?vx ?hs ?hx ?vv ?ww ?hr ?hk);(case hs=>rfl);(case hx=>rfl);(case hr=>exact hrun))
  have UU:=(q8.out.bf.block bb lb).trans H3.out
  have c6:w1.cell? ⟨bb,6,none⟩=some (.slice ko bk.length kc):=aA UU 6
  have nr8:=hid (λk e=>(q8.out.rb (k:=k) e).2.1)
  have nu8:=hid (λk e=>(q8.out.ub (k:=k) e).2.1)
  clear e0 e1 e2 e3 e4 e5 hrun nu nr UU
  go_wp2_with (go_at_call 33;(with_reducible refine(cb _ _ _ _).mono ?_);rintro e w8 ⟨rfl,hw8⟩;(have hw':=hw8.symm);subst hw';clear hw8)
  have bX:Below w1.heap.size w1 (w1.alloc (.cells #[.slice ko bk.length kc] 68)):=(dI _ w1).alloc (aL _) _
  have hbx:=ay w1 (.cells #[.slice ko bk.length kc] 68)
  have q9:=q8.out.below bX
  have Jk:Hid (Marks w.heap.size (w1.alloc (.cells #[.slice ko bk.length kc] 68)) ds):=Marks.kept (λk _ hk=>bX.block k (aY.1 hk).1) ds HM4.out
  have hz8:=q8.out.sz
  have sz4:(w1.alloc (.cells #[.slice ko bk.length kc] 68)).heap.size=w1.heap.size+1:=by simp
  clear bX HM4 q8 c6
  generalize hsb:w1.heap.size=sb at *
  generalize w1.alloc _=W4 at *
  clear hsb
  have k0:Kd w W4 sb (.slice ko bk.length kc) (.slice vo (dn.length+1) vc) L bk (dn++[(n,bk.length)]) 0 (λk=>k=w.heap.size+1\/(Value.slice (some ⟨g,0,none⟩) L.length c).ownBlock=some k) W4:=
   ⟨⟨_,by simpa using q9,λk e=>.inl (by have:=nu8.out k e;omega),λk=>Iff.rfl⟩,hbx,by omega,hz8,aL _,λk e=>by have:=nr8.out k e;omega,λk hk=>hk⟩
  have hbl:bk.length<=1000000:=by
   have e1:=congrArg List.length HT.out
   have e2:=wV ks
   have e3:=H6.out.len
   simp[dM] at e1
   omega
  have Xe:=hid k0
  have Zz:Hid (∀W,Below w.heap.size w W->W.ownsRow 0 54 1 (.slice ko bk.length kc) bk.length (bk.map ptr)):=hid (λW hB=>bD H4.out (λk e=>hB.block k (H4.out.lt k e).2))
  clear q9 nu8 nr8 hbx k0
  refine zH (Je sb 0 (.slice ko bk.length kc) bk (by omega)) PV rfl (Kd w W4 sb (.slice ko bk.length kc) (.slice vo (dn.length+1) vc) L bk (dn++[(n,bk.length)])) (λ_ _=>False) ?hL ?hI ?hIx _ Xe.out ?A ?hsz ?assign ?body ?done ?stop
  case assign=>
   intro L' i hi W K hK
   rw[xP]
   simp only[vB,List.setIfInBounds_toArray,List.set_cons_succ,List.set_cons_zero]
   gi_wp2_with (simp only[Oper.semAt];go_simp)
   exact hK
  case hL=>
   intro i D W h
   obtain⟨u,q,h1,h2⟩:=h.q
   refine⟨⟨aA h.box 0,Zz.out W q.bf⟩,λk hk=>?_⟩
   rcases(h2 k).1 hk with rfl|e
   ·have:=q.sz;omega
   ·exact(q.ub e).2.1
  case hI=>intro i D W W' h hu;exact h.upd hu
  case hIx=>intro c W W' h;exact h.elim
  case hsz=>intro i hi;rw[xP];rfl
  case stop=>intro c W h;exact h.elim
  case done=>
   intro D W h hD
   rw[qE] at h
   obtain⟨u,q,h1,h2⟩:=h.q
   have Nk:Marks w.heap.size W ({ target:=.collected W4.heap.size,args:=#[] }::ds):=by
    refine⟨⟨_,rfl,by omega,hD,?_⟩,Marks.kept (λk _ hk=>(h.keep k hk).trans hk.symm) ds Jk.out⟩
    intro d hd e
    obtain⟨r,h1,h2⟩:=Marks.lt ds Jk.out d hd
    rw[h1] at e
    injection e with e1 _
    injection e1 with e1
    omega
   have er:L++bk.reverse.take bk.length=L++bk.reverse:=by rw[List.take_of_length_le (by simp)]
   rw[er] at q
   have Vk:bg w (λ_=>True) (L++bk.reverse).reverse (ks.app rs):=by
    rw[List.reverse_append,List.reverse_reverse]
    exact(H6.out.mono (λ_ _=>trivial)).app H7.out
   have hT9:(dn++[(n,bk.length)])++dM (ks.app rs)=T:=by
    rw[<- HT.out,oQ,H6.out.len]
    simp[dM]
   have aAV:T.length-(dn.length+1)<T.length-dn.length:=by
    have:=congrArg List.length HT.out
    simp[dM] at this
    omega
   exact⟨⟨⟨rfl,rfl⟩,Nk,u,_,_,_,q,Vk,hT9⟩,aAV⟩
  case body=>
   intro L' i hi D W FE h hs hlp
   subst FE
   rw[qE] at hi
   obtain⟨u,q,h1,h2⟩:=h.q
   obtain⟨uo,uc,rfl⟩:=aI q.row
   generalize hx:bk.getD (bk.length-1-i) 0=x at *
   have MP:(L++bk.reverse.take i).length<=2000000:=by
    simp
    omega
   obtain⟨v2,w2,hrun,ho2,hg,hk⟩:=fF W 68 _ _ _ q.row (by have:=q.sz;omega) x MP
   have hU:It.bL (λk=>(Value.slice uo (L++bk.reverse.take i).length uc).ownBlock=some k) W w2:=((It.bL.refl _ W).alloc _).trans' ((It.bL.refl _ _).grown hg (λk e=>.inl e))
   have bx:w2.heap[w.heap.size+1]? = some (.cells #[.slice uo (L++bk.reverse.take i).length uc] 68 (0,0)):=(hU.block _ (by have:=q.sz;omega) (λe=>(q.ub e).2.2.1 rfl)).trans q.box
   have fin:Hid (vE (W4.heap.size+1) W4.heap.size D W (λW'=>∃D',Kd w W4 sb (.slice ko bk.length kc) (.slice vo (dn.length+1) vc) L bk (dn++[(n,bk.length)]) (i+1) D' W') (λ_ _=>False) .normal { tmps:=#[],defers:=[] } (w2.setCell ⟨w.heap.size+1,0,none⟩ v2)):=by
    have q2:=q.kid ho2 hg
    have lo:=h.lo
    have lt:=h.lt
    have mE:It.bL (λk=>k=w.heap.size+1\/(Value.slice uo (L++bk.reverse.take i).length uc).ownBlock=some k) W (w2.setCell ⟨w.heap.size+1,0,none⟩ v2):=(hU.mono (λk e=>.inr e)).setCell (p:=⟨w.heap.size+1,0,none⟩) (.inl (.inl rfl)) _
    have ne:∀k,(k=W4.heap.size\/k=W4.heap.size+1\/k=sb)->¬ (k=w.heap.size+1\/(Value.slice uo (L++bk.reverse.take i).length uc).ownBlock=some k):=by
     rintro k hk (e|e)
     ·omega
     ·rcases hk with rfl|rfl|rfl
      ·rcases h1 _ e with g|g <;> omega
      ·rcases h1 _ e with g|g <;> omega
      ·obtain⟨cur,hc⟩:=fQ q.row e
       rw[h.box] at hc;cases hc
    refine⟨⟨mE.block _ (by omega) (ne _ (by omega)),mE.block _ (by omega) (ne _ (by omega))⟩,λk hk1 hk2=>mE.block k hk1 (λe=>hk2 ((h2 k).2 e)),(λk=>k=w.heap.size+1\/v2.ownBlock=some k),?_⟩
    refine⟨⟨v2,?_,?_,λk=>Iff.rfl⟩,(mE.block _ (by omega) (ne _ (by omega))).trans h.box,h.lt,h.lo,dQ h.sz mE.size,h.rb,λk hk=>(mE.block k (aY.1 (h.keep k hk)).1 ?_).trans (h.keep k hk)⟩
    ·rw[Hl bk i hi,hx,<- List.append_assoc]
     exact q2
    ·intro k e
     rcases hk with e2|e2
     ·rw[e2] at e;exact h1 k e
     ·rw[e2] at e
      have:=Option.some.inj e
      rw[bY] at this
      omega
    ·rintro(e|e)
     ·have:=h.keep k hk
      rw[e,q.box] at this;cases this
     ·obtain⟨cur,hc⟩:=fQ q.row e
      rw[h.keep k hk] at hc;cases hc
   have co:W.cell? ⟨w.heap.size+1,0,none⟩=some (.slice uo (L++bk.reverse.take i).length uc):=aA q.box 0
   have c2:w2.cell? ⟨w.heap.size+1,0,none⟩=some (.slice uo (L++bk.reverse.take i).length uc):=aA bx 0
   have z2:=aC bx 0
   obtain⟨vo2,vc2,rfl⟩:=aI ho2
   generalize (L++bk.reverse.take i).length=nl at *
   clear q ho2 hg hk hU bx h1 h2 h
   gi_wp2_with (first|(with_reducible refine tu _ (.tmp 46) (.tmp 48) 68 68 rfl _ _ (by simp[Act.eval]) (by simp[Act.eval]) _ _ hrun ?_)|(simp only[Oper.semAt];go_simp))
   exact fin.out
theorem L9(s:ByteArray)(hs:s.size<=1000000)(w:World)(ht:Tabs w)(hm:MarksIn w)(n:Nat)(fo:Fo)(s':Cs)(hP:P n (.pg .nil) ⟨gU s.data.toList,0⟩=some (.ok (fo,s')))(hbig:(dM fo).length<=1000000) :
  Calls prog 5 #[.string s] w λe w'=>∃r,e=.returned (.tuple #[r,fv (0,0)])/\Below w.heap.size w w'/\w'.ownsRow w.heap.size 31 6 r (dM fo).length (eH (dM fo)):=by
 have hmf:∀ (fn:Fn) (first cap:Array Value) (w:World),(Instr.makeFunc fn first cap).run prog w=.ok (.func fn first cap) w:=λ_ _ _ _=>rfl
 have bA:Below w.heap.size w ((w.alloc (.cells #[.slice none 0 0] 22)).alloc (.cells #[.int .i64 0,.int .i64 0] 25)):=((dI _ w).alloc (aL _) _).alloc (by simp) _
 have cn:=uM s hs _ (ht.below bA) (hm.below bA)
 have cp:=uJ n
 go_enter_defers func5,ntmps5
 go_upto_region 2 with(go_at_call 18;(with_reducible refine cn.mono ?_);rintro e w2 ⟨rfl,b2,v,hc⟩;clear cn)
 simp only[bY] at hc b2
 have lc:=(Cx.start hc).lt
 have z2:=b2.size
 simp only[bY] at z2
 have n1:=ay w (.cells #[.slice none 0 0] 22)
 have n2:=ay (w.alloc (.cells #[.slice none 0 0] 22)) (.cells #[.int .i64 0,.int .i64 0] 25)
 simp only[bY] at n2
 have bC:Below w2.heap.size w2 (w2.alloc (.cells #[ptr (w.heap.size+1+1)] 49)):=(dI _ w2).alloc (aL _) _
 have r0:=aF ((b2.block w.heap.size (by omega)).trans ((Below.heap_alloc _ _ _ (by simp)).trans n1)) bC
 have r1:=aF ((b2.block (w.heap.size+1) (by omega)).trans n2) bC
 have rn:=ay w2 (.cells #[ptr (w.heap.size+1+1)] 49)
 have hx:=((Cx.start hc).below bC)
 have hc3:Cv (w2.alloc (.cells #[ptr (w.heap.size+1+1)] 49)) (w.heap.size+1+1) (gU s.data.toList) v ⟨gU s.data.toList,0⟩:=hx.cv
 have bW:Below w.heap.size w (w2.alloc (.cells #[ptr (w.heap.size+1+1)] 49)):=bA.trans ((b2.mono (by omega)).trans (bC.mono (by omega)))
 have zz:w2.heap.size<(w2.alloc (.cells #[ptr (w.heap.size+1+1)] 49)).heap.size:=by simp
 generalize w2.alloc (.cells #[ptr (w.heap.size+1+1)] 49)=W3 at *
 generalize hnc:w2.heap.size=nc at *
 have WU:=cp.ok (Cx.start hc3) hP
 have cn0:W3.cell? ⟨nc,0,none⟩=some (ptr (w.heap.size+1+1)):=aA rn 0
 have HH:=hid (bO r0 (bO r1 (bO rn (bO bW (bO zz (bO z2 lc))))))
 clear hx hc hc3 bC n1 n2 r0 r1 rn bW bA b2 cp ht hm hP
 have aA2:=Ko
 go_wp2_with (first|(go_at_call 20;(with_reducible refine WU.mono ?_);rintro e w4 ⟨x,rfl,hcx,hu,hfo⟩;clear WU)|(go_at_call 21;(with_reducible refine(aA2 w4 x fo (hfo.mono (λ_ _=>trivial)) hbig).mono ?_);rintro e w5 ⟨r,rfl,b5,vP⟩;(obtain⟨r0,r1,rn,bW,zz,z2,lc⟩:=HH.out);(have q0:=aF ((hu.block w.heap.size (by omega) (by omega)).trans r0) b5);(have q1:=aF ((hu.block (w.heap.size+1) (by omega) (by omega)).trans r1) b5);(have g0:=aA q0 0);(have g1:=aA q1 0);(have g2:=aA q1 1);(have y0:=aC q0);(have y1:=aC q1);(obtain⟨ro,rc,rfl⟩:=aI vP)))
 obtain⟨r0,r1,rn,bW,zz,z2,lc⟩:=HH.out
 have s4:=hu.size
 have p0:=aM (c:=[.slice none 0 0]) q0 0 (.slice ro (dM fo).length rc)
 have p1:=(aH w5 ⟨w.heap.size,0,none⟩ (.slice ro (dM fo).length rc) (w.heap.size+1) (by show w.heap.size+1≠w.heap.size;omega)).trans q1
 have p2:=aM (c:=[.int .i64 0,.int .i64 0]) (aM (c:=[.int .i64 0,.int .i64 0]) p1 0 (.int .i64 0)) 1 (.int .i64 0)
 have p3:=(aH _ ⟨w.heap.size+1,1,none⟩ (.int .i64 0) w.heap.size (by show w.heap.size≠w.heap.size+1;omega)).trans ((aH _ ⟨w.heap.size+1,0,none⟩ (.int .i64 0) w.heap.size (by show w.heap.size≠w.heap.size+1;omega)).trans p0)
 have bE:Below w.heap.size w w5:=(bW.trans (hu.below (by omega) (λk e=>by omega))).trans (b5.mono (by omega))
 refine leaves_cons (f:=19) (args:=#[ptr nc,ptr w.heap.size,ptr (w.heap.size+1)]) (by simp) (by simp[go_sem]) ?_
 refine(FT _ _ _ _).mono ?_
 rintro e u' w'' ⟨rfl,rfl,rfl⟩
 show Leaves _ _ _ _ [] (settle _) _
 simp only[settle]
 refine⟨_,yV rfl _ _ w.heap.size (w.heap.size+1) (.slice ro (dM fo).length rc) (.int .i64 0) (.int .i64 0) _ _ _ (by simp) (by simp) p3 p2,_,rfl,?_,?_⟩
 ·exact((bE.setCell (by show w.heap.size<=w.heap.size;omega) _).setCell (by show w.heap.size<=w.heap.size+1;omega) _).setCell (by show w.heap.size<=w.heap.size+1;omega) _
 ·have hlo:∀k,(Value.slice ro (dM fo).length rc).ownBlock=some k->w.heap.size+2<=k:=λk e=>by have:=(vP.lt k e).1;omega
  refine iG (bD vP (λk e=>?_)) (λk e=>by have:=hlo k e;omega)
  have:=hlo k e
  exact(aH _ _ _ _ (by show k≠w.heap.size+1;omega)).trans ((aH _ _ _ _ (by show k≠w.heap.size+1;omega)).trans (aH _ _ _ _ (by show k≠w.heap.size;omega)))
end Go.Proofs.YtgchnkgolclmgaaGreatDoor.W.Tr

import Derived.Test.YtjplieobnknnpaaGreatDoorJX
open List renaming length_append → z8z, length_nil → z9z
open Array renaming getElem?_eq_some_iff → z2z
open Nat renaming le_refl → z1z, le_trans → z7z
open Go.World renaming alloc_heap_new → z3z, size_alloc → z5z
open Go.RowKit.Below renaming heap_setCell → z0z, refl → z6z
open And renaming intro → z4z
open Go.Proofs.Tryz
set_option maxRecDepth 1000000
set_option maxHeartbeats 8000000
namespace Go.Proofs.YtjplieobnknnpaaGreatDoor.W.Tr
open Go.ChangeShapes Go.WideShapes Go.RowKit Go.Shelf
set_option linter.unusedVariables false
set_option linter.unusedSimpArgs false
theorem GH{W:World}{b:Nat}{e:TypeId}{size:Nat}{v:Value}{n:Nat}{xs:List Value}(h:W.ownsRow b e size v n xs){k:Nat}(hk:v.ownBlock=some k):∃cur,W.heap[k]? = some (.cells cur e (0,0)):=by
 rcases h.2 with⟨rfl,_⟩|⟨g,cap,cur,rfl,h2,h3,_⟩
 ·cases hk
 ·cases hk;exact⟨cur,h3⟩
structure Rq (w W:World) (u r:Value) (ls:List Nat) (dn:List (Nd × Nat)):Prop where
 bel:Below w.heap.size w W
 sz:w.heap.size+2<=W.heap.size
 box:W.heap[w.heap.size+1]? = some (.cells #[u] 75 (0,0))
 row:W.ownsRow w.heap.size 56 1 u ls.length (ls.map ptr)
 out:W.ownsRow w.heap.size 48 6 r dn.length (IL dn)
section
variable {w W W':World} {u r u' r':Value} {ls:List Nat} {dn:List (Nd × Nat)} {S:Nat->Prop}
theorem Rq.ub(q:Rq w W u r ls dn){k:Nat}(e:u.ownBlock=some k):w.heap.size<=k/\k<W.heap.size/\k≠w.heap.size+1/\r.ownBlock≠some k:=by
 obtain⟨cur,hc⟩:=GH q.row e
 refine⟨(q.row.lt k e).1,(q.row.lt k e).2,?_,?_⟩
 ·rintro rfl
  rw[q.box] at hc;cases hc
 ·intro er
  obtain⟨cur',hc'⟩:=GH q.out er
  rw[hc] at hc';cases hc'
theorem Rq.rb(q:Rq w W u r ls dn){k:Nat}(e:r.ownBlock=some k):w.heap.size<=k/\k<W.heap.size/\k≠w.heap.size+1/\u.ownBlock≠some k:=by
 obtain⟨cur,hc⟩:=GH q.out e
 refine⟨(q.out.lt k e).1,(q.out.lt k e).2,?_,?_⟩
 ·rintro rfl
  rw[q.box] at hc;cases hc
 ·intro er
  exact(q.ub er).2.2.2 e
theorem Rq.keep(q:Rq w W u r ls dn)(hU:It.AL S W W')(hS:∀k,S k->w.heap.size<=k/\k≠w.heap.size+1/\u.ownBlock≠some k/\r.ownBlock≠some k):Rq w W' u r ls dn:=by
 have z:=q.sz
 refine⟨q.bel.trans (hU.below (by omega) (λk e=>(hS k e).1)),z7z z hU.size,(hU.block _ (by omega) (λe=>(hS _ e).2.1 rfl)).trans q.box,Bq q.row (λk e=>hU.block k (q.ub e).2.1 (λg=>(hS k g).2.2.1 e)),Bq q.out (λk e=>hU.block k (q.rb e).2.1 (λg=>(hS k g).2.2.2 e))⟩
theorem Rq.below(q:Rq w W u r ls dn)(hB:Below W.heap.size W W'):Rq w W' u r ls dn:=
 q.keep (S:=λ_=>False) (It.AL.of_below hB) (λk e=>e.elim)
theorem Rq.set{ls':List Nat}(q:Rq w W u r ls dn)(h:W.ownsRow w.heap.size 56 1 u' ls'.length (ls'.map ptr)):Rq w (W.setCell ⟨w.heap.size+1,0,none⟩ u') u' r ls' dn:=by
 have z:=q.sz
 have hn:∀k,u'.ownBlock=some k->k≠w.heap.size+1:=by
  rintro k e rfl
  obtain⟨cur,hc⟩:=GH h e
  rw[q.box] at hc;cases hc
 refine⟨q.bel.setCell (by show w.heap.size<=w.heap.size+1;omega) _,by simp[World.setCell];exact z,Bu (c:=[u]) q.box 0 u',Bq h (λk e=>z0z _ _ _ _ (hn k e)),Bq q.out (λk e=>z0z _ _ _ _ (q.rb e).2.2.1)⟩
theorem Rq.pop{g c x:Nat}{L:List Nat}(q:Rq w W (.slice (some ⟨g,0,none⟩) (L.length+1) c) r (L++[x]) dn):Rq w (W.setCell ⟨w.heap.size+1,0,none⟩ (.slice (some ⟨g,0,none⟩) L.length c)) (.slice (some ⟨g,0,none⟩) L.length c) r L dn:=by
 refine q.set ?_
 rcases q.row.2 with⟨h0,_⟩|⟨g',cap,cur,h0,h2,h3,h4,h5,h6,h7⟩
 ·cases h0
 ·simp only[z8z,List.length_cons,z9z,Value.slice.injEq,Option.some.injEq,Addr.mk.injEq,true_and,and_true] at h0
  obtain⟨rfl,rfl⟩:=h0
  refine⟨by simp,.inr ⟨g,c,cur,rfl,h2,h3,?_,h5,h6,?_⟩⟩
  ·simp at h4;omega
  ·have h8:=congrArg (List.take L.length) h7
   have e9:((L++[x]).map ptr).take L.length=L.map ptr:=by
    rw[List.map_append,List.take_append_of_le_length (by simp),List.take_of_length_le (by simp)]
   rw[List.take_take,e9,show min L.length ((L++[x]).length*1)=L.length by simp] at h8
   rw[Nat.mul_one,h8]
theorem Rq.node{p:Nd × Nat}(q:Rq w W u r ls dn)(h2:W'.ownsRow w.heap.size 48 6 r' (dn.length+1) (IL dn++(El p).toList))(h3:(W.alloc (.cells (El p) 48)).grownBy W' r.ownBlock):Rq w W' u r' ls (dn++[p]):=by
 have z:=q.sz
 have hU:It.AL (λk=>r.ownBlock=some k) W W':=((It.AL.refl _ W).alloc _).trans' ((It.AL.refl _ _).grown h3 (λk e=>.inl e))
 refine⟨q.bel.trans (hU.below (by omega) (λk e=>(q.rb e).1)),z7z z hU.size,(hU.block _ (by omega) (λe=>(q.rb e).2.2.1 rfl)).trans q.box,Bq q.row (λk e=>hU.block k (q.ub e).2.1 (q.ub e).2.2.2),?_⟩
 rw[ABB,z8z]
 exact h2
theorem Rq.kid{x:Nat}{w1:World}(q:Rq w W u r ls dn)(h2:w1.ownsRow w.heap.size 56 1 u' (ls.length+1) (ls.map ptr++[ptr x]))(h3:(W.alloc (.cells #[ptr x] 56)).grownBy w1 u.ownBlock):Rq w (w1.setCell ⟨w.heap.size+1,0,none⟩ u') u' r (ls++[x]) dn:=by
 have z:=q.sz
 have hU:It.AL (λk=>u.ownBlock=some k) W w1:=((It.AL.refl _ W).alloc _).trans' ((It.AL.refl _ _).grown h3 (λk e=>.inl e))
 have hb:w1.heap[w.heap.size+1]? = some (.cells #[u] 75 (0,0)):=(hU.block _ (by omega) (λe=>(q.ub e).2.2.1 rfl)).trans q.box
 have hn:∀k,u'.ownBlock=some k->k≠w.heap.size+1:=by
  rintro k e rfl
  obtain⟨cur,hc⟩:=GH h2 e
  rw[hb] at hc;cases hc
 refine⟨(q.bel.trans (hU.below (by omega) (λk e=>(q.ub e).1))).setCell (by show w.heap.size<=w.heap.size+1;omega) _,by have:=hU.size;simp[World.setCell];omega,Bu (c:=[u]) hb 0 u',?_,Bq q.out (λk e=>(z0z _ _ _ _ (q.rb e).2.2.1).trans (hU.block k (q.rb e).2.1 (q.rb e).2.2.2))⟩
 rw[z8z,List.map_append]
 exact Bq h2 (λk e=>z0z _ _ _ _ (hn k e))
end
theorem jK(w:World)(b:Nat):Rq w ((w.alloc (.cells #[ptr b] 56)).alloc (.cells #[.slice (some ⟨w.heap.size,0,none⟩) 1 1] 75)) (.slice (some ⟨w.heap.size,0,none⟩) 1 1) (.slice none 0 0) [b] []:=by
 have n1:=z3z w (.cells #[ptr b] 56)
 have n2:=z3z (w.alloc (.cells #[ptr b] 56)) (.cells #[.slice (some ⟨w.heap.size,0,none⟩) 1 1] 75)
 rw[z5z] at n2
 refine⟨((z6z _ w).alloc (z1z _) _).alloc (by simp) _,by simp,n2,⟨rfl,.inr ⟨w.heap.size,1,_,rfl,z1z _,(Below.heap_alloc _ _ _ (by simp)).trans n1,z1z _,by unfold maxLen;omega,rfl,rfl⟩⟩,World.ownsRow_nil _ _ _ _⟩
theorem Marks.lt{B:Nat}{w:World}:∀ds,Marks B w ds->∀d ∈ ds,∃r,d={ target:=.collected r,args:=#[] }/\r<w.heap.size
 | [],_,d,hd=>by cases hd
 | d0::ds,⟨⟨r,h1,h2,h3,h4⟩,h5⟩,d,hd=>by
  rcases List.mem_cons.1 hd with rfl|hd
  ·exact⟨r,h1,(z2z.1 h3).1⟩
  ·exact Marks.lt ds h5 d hd
structure Kd (w W4:World) (sb:Nat) (kv r:Value) (L bk:List Nat) (dn:List (Nd × Nat)) (i:Nat) (D:Nat->Prop) (W:World):Prop where
 q:∃u,Rq w W u r (L++bk.reverse.take i) dn/\(∀k,u.ownBlock=some k->k<W4.heap.size\/W4.heap.size+2<=k)/\∀k,D k↔k=w.heap.size+1\/u.ownBlock=some k
 box:W.heap[sb]? = some (.cells #[kv] 75 (0,0))
 lt:sb<W4.heap.size
 lo:w.heap.size+2<=sb
 sz:W4.heap.size<=W.heap.size
 rb:∀k,r.ownBlock=some k->k<W4.heap.size
 keep:∀k:Nat,W4.heap[k]? = some (.deferred (some []))->W.heap[k]? = some (.deferred (some []))
section
variable {w W4 W W':World} {sb i x:Nat} {kv r u u':Value} {L bk:List Nat} {dn:List (Nd × Nat)} {D:Nat->Prop}
theorem Kd.upd(h:Kd w W4 sb kv r L bk dn i D W)(hu:It.AL (λk=>k=W4.heap.size+1) W W'):Kd w W4 sb kv r L bk dn i D W':=by
 obtain⟨u,q,h1,h2⟩:=h.q
 have:=h.lt
 have:=h.lo
 have:=h.sz
 refine⟨⟨u,q.keep hu (λk e=>⟨by omega,by omega,λg=>by have:=h1 k g;omega,λg=>by have:=h.rb k g;omega⟩),h1,h2⟩,(hu.block _ (by omega) (by omega)).trans h.box,h.lt,h.lo,z7z h.sz hu.size,h.rb,λk hk=>(hu.block k ?_ ?_).trans (h.keep k hk)⟩
 ·exact(z2z.1 (h.keep k hk)).1
 ·have:=(z2z.1 hk).1;omega
theorem gP(bk:List Nat)(i:Nat)(hi:i<bk.length):bk.reverse.take (i+1)=bk.reverse.take i++[bk.getD (bk.length-1-i) 0]:=by
 rw[List.take_succ_eq_append_getElem (by simpa using hi),List.getElem_reverse,List.getD_eq_getElem?_getD,List.getElem?_eq_getElem (by omega)]
 rfl
end
def ACS:Value->Nat
 | .slice _ n _=>n
 | _=>0
theorem nV(w:World)(b:Nat)(fo:Fo)(hf:Ac w (λ_=>True) [b] fo)(hbig:(AJ fo).length<=1000000) :
  Calls prog 22 #[ptr b] w λe w'=>∃r,e=.returned r/\Below w.heap.size w w'/\w'.ownsRow w.heap.size 48 6 r (AJ fo).length (IL (AJ fo)):=by
 obtain⟨T,hT⟩:∃T,AJ fo=T:=⟨_,rfl⟩
 rw[hT] at hbig ⊢
 have cb:=mH
 have q0:=jK w b
 refine(callsIn_wide (n:=9)).1 ?_
 refine callsIn_of_wp_marks func22 rfl trivial ?_ rfl
 refine wpIn_wide.2 ?_
 simp only[ntmps22,List.size_toArray,List.length_cons,z9z,Nat.reduceAdd,Nat.reduceSub,Array.replicate_succ,Array.replicate_zero,List.push_toArray,List.append_toArray,List.nil_append,List.cons_append]
 go_upto_region 3 with fail
 generalize World.alloc (World.alloc w _) _=W0 at *
 refine wp_loop (λa' w'=>(a'.tmps.size=51/\a'.tmps.getD 4 undef=.pointer (some ⟨w.heap.size+1,0,none⟩))/\Marks w.heap.size w' a'.defers/\∃ (u:Value) (ls:List Nat) (dn:List (Nd × Nat)) (fo:Fo),Rq w w' u (a'.tmps.getD 3 undef) ls dn/\Ac w (λ_=>True) ls.reverse fo/\dn++AJ fo=T) (λa' _=>T.length-ACS (a'.tmps.getD 3 undef)) ?_ ?_
 ·exact⟨⟨rfl,rfl⟩,trivial,_,[b],[],fo,q0,hf,hT⟩
 clear q0 hf hT fo
 rintro⟨t,ds⟩ wr ⟨⟨hs,h4⟩,hM,u,ls,dn,fo,q,hf,hT⟩
 obtain⟨x2,e2⟩:∃x,t.getD 2 undef=x:=⟨_,rfl⟩
 obtain⟨r,e3⟩:∃x,t.getD 3 undef=x:=⟨_,rfl⟩
 simp only at hs h4 hM q ⊢
 rw[e3] at q ⊢
 obtain⟨uu,rfl⟩:=zI t hs e2 e3 h4
 clear hs h4 e2 e3
 unfold X8
 obtain⟨ro,rc,rfl⟩:=Ak q.out
 obtain⟨o,c,rfl⟩:=Ak q.row
 have co:wr.cell? ⟨w.heap.size+1,0,none⟩=some (.slice o ls.length c):=AO q.box 0
 have zo:=Bj q.box 0
 have HM:=hid hM
 have HT:=hid hT
 have HQ:=hid q
 have HF:=hid hf
 clear hM hT
 cases fo with
 | nil=>
  have hl:ls=[]:=by
   have:ls.reverse=[]:=hf
   simpa using this
  subst hl
  clear q hf
  simp only[z9z] at co
  go_wp2
  refine QO ds wr HM.out (λw' hu=>?_)
  refine⟨.slice ro dn.length rc,by simp[results,results22,go_sem],_,rfl,HQ.out.bel.trans (hu.below (by have:=HQ.out.sz;omega) (λk e=>e.1)),?_⟩
  have eT:dn=T:=by have:=HT.out;simpa [AJ] using this
  rw[<- eT]
  refine Bq HQ.out.out (λk e=>hu.block k (HQ.out.rb e).2.1 ?_)
  rintro⟨_,ex⟩
  obtain⟨cur,hc⟩:=GH HQ.out.out e
  rw[hc] at ex;cases ex
 | cons n ks rs=>
  obtain⟨bb,bs',v,bk,h1,-,h3,h4,-,h6,h7⟩:=hf
  obtain⟨L,rfl⟩:∃L,ls=L++[bb]:=⟨bs'.reverse,by rw[<- List.reverse_inj,h1];simp⟩
  have hL:bs'=L.reverse:=by simpa using h1.symm
  subst hL
  obtain⟨ko,kc,rfl⟩:=Ak h4
  have lb:=(z2z.1 h3).1
  have hb:=(q.bel.block bb lb).trans h3
  have cB:=AO hb
  have c0:wr.cell? ⟨bb,0,none⟩=some (.int .i64 n.kind):=cB 0
  have c1:wr.cell? ⟨bb,1,none⟩=some (.int .i64 n.a):=cB 1
  have c2:wr.cell? ⟨bb,2,none⟩=some (.int .i64 0):=cB 2
  have c3:wr.cell? ⟨bb,3,none⟩=some (.string n.text):=cB 3
  have c4:wr.cell? ⟨bb,4,none⟩=some (.int .i64 n.int):=cB 4
  have c5:wr.cell? ⟨bb,5,none⟩=some (.int .u64 n.bits):=cB 5
  have c6:wr.cell? ⟨bb,6,none⟩=some (.slice ko bk.length kc):=cB 6
  obtain⟨g,cc,eo,hcc,hlast⟩:=XW q.row (i:=L.length) (by simp)
  simp only[Value.slice.injEq,true_and] at eo
  obtain⟨rfl,rfl⟩:=eo
  have hll:(L++[bb]).length=L.length+1:=by simp
  rw[show (L++[bb]).getD L.length 0=bb by simp] at hlast
  simp only[hll] at co hcc
  have H3:=hid h3
  have H4:=hid h4
  have H6:=hid h6
  have H7:=hid h7
  have hlen:L.length+1+dn.length<=1000000:=by
   have e1:=congrArg List.length HT.out
   have e2:=LQ (Fo.cons n ks rs)
   have e3:=HF.out.len
   simp at e1 e3
   omega
  have z:=q.sz
  have nb:¬bb=w.heap.size+1:=by omega
  have nb':¬w.heap.size+1=bb:=by omega
  have o1:IntKind.i64.wrap (((L.length+1:Nat):Int)-1)=L.length:=by rw[IntKind.wrap_i64];omega
  have o2:(0:Int)<=L.length:=by omega
  have o3:(L.length:Int)<((L.length+1:Nat):Int):=by omega
  have o4:(0:Int)<((L.length+1:Nat):Int):=by omega
  rw[hll] at q
  have q5:=hid q.pop
  clear q h1 h3 h4 h6 h7 hb cB
  go_upto_region 6 with fail
  have HM1:Hid (Marks w.heap.size (wr.setCell ⟨w.heap.size+1,0,none⟩ (.slice (some ⟨g,0,none⟩) L.length c)) ds):=by
   refine Marks.kept ?_ ds HM.out
   intro k _ hk
   refine z0z _ _ _ _ ?_
   rintro rfl
   rw[HQ.out.box] at hk;cases hk
  clear HQ HM co zo hlast c0 c1 c2 c3 c4 c5 c6 z hcc
  generalize wr.setCell _ _=W1 at *
  have hb:=(q5.out.bel.block bb lb).trans H3.out
  have cB:=AO hb
  have c0:W1.cell? ⟨bb,0,none⟩=some (.int .i64 n.kind):=cB 0
  have c1:W1.cell? ⟨bb,1,none⟩=some (.int .i64 n.a):=cB 1
  have c2:W1.cell? ⟨bb,2,none⟩=some (.int .i64 0):=cB 2
  have c3:W1.cell? ⟨bb,3,none⟩=some (.string n.text):=cB 3
  have c4:W1.cell? ⟨bb,4,none⟩=some (.int .i64 n.int):=cB 4
  have c5:W1.cell? ⟨bb,5,none⟩=some (.int .u64 n.bits):=cB 5
  have c6:W1.cell? ⟨bb,6,none⟩=some (.slice ko bk.length kc):=cB 6
  have z:=q5.out.sz
  have n1:¬bb=W1.heap.size:=by omega
  have n2:¬W1.heap.size=bb:=by omega
  clear cB
  go_upto_region 7 with fail
  have bN:Below W1.heap.size W1 (W1.alloc (.cells #[.int .i64 n.kind,.int .i64 n.a,.int .i64 0,.string n.text,.int .i64 n.int,.int .u64 n.bits] 48)):=(z6z _ W1).alloc (z1z _) _
  have hn0:=z3z W1 (.cells #[.int .i64 n.kind,.int .i64 n.a,.int .i64 0,.string n.text,.int .i64 n.int,.int .u64 n.bits] 48)
  have hb2:=AY hb bN
  have q6:=hid (q5.out.below bN)
  have HM2:Hid (Marks w.heap.size (W1.alloc (.cells #[.int .i64 n.kind,.int .i64 n.a,.int .i64 0,.string n.text,.int .i64 n.int,.int .u64 n.bits] 48)) ds):=Marks.kept (λk _ hk=>bN.block k (z2z.1 hk).1) ds HM1.out
  have sz2:(W1.alloc (.cells #[.int .i64 n.kind,.int .i64 n.a,.int .i64 0,.string n.text,.int .i64 n.int,.int .u64 n.bits] 48)).heap.size=W1.heap.size+1:=by simp
  have nu:=hid (λk e=>(q5.out.ub (k:=k) e).2.1)
  have nr:=hid (λk e=>(q5.out.rb (k:=k) e).2.1)
  clear c0 c1 c2 c3 c4 c5 c6 q5 HM1 hb bN
  generalize hnb:W1.heap.size=nb1 at *
  generalize W1.alloc _=W2 at *
  clear hnb
  have c6:W2.cell? ⟨bb,6,none⟩=some (.slice ko bk.length kc):=AO hb2 6
  have d2:W2.cell? ⟨nb1,2,none⟩=some (.int .i64 0):=AO hn0 2
  have zn:=Bj hn0
  go_upto_region 8 with fail
  clear c6 d2 zn
  have hn1:=Bu (c:=[.int .i64 n.kind,.int .i64 n.a,.int .i64 0,.string n.text,.int .i64 n.int,.int .u64 n.bits]) hn0 2 (.int .i64 (bk.length:Nat))
  have u3:It.AL (λk=>k=nb1) W2 (W2.setCell ⟨nb1,2,none⟩ (.int .i64 (bk.length:Nat))):=(It.AL.refl (λk=>k=nb1) W2).setCell (p:=⟨nb1,2,none⟩) (.inl rfl) _
  have q7:=hid (q6.out.keep u3 (λk e=>⟨by omega,by omega,λg=>by have:=nu.out _ g;omega,λg=>by have:=nr.out _ g;omega⟩))
  have HM3:Hid (Marks w.heap.size (W2.setCell ⟨nb1,2,none⟩ (.int .i64 (bk.length:Nat))) ds):=by
   refine Marks.kept ?_ ds HM2.out
   intro k _ hk
   refine z0z _ _ _ _ ?_
   rintro rfl
   rw[hn0] at hk;cases hk
  clear u3 q6 HM2 hn0 hb2 n1 n2 sz2
  generalize W2.setCell _ _=W3 at *
  have e0:W3.cell? ⟨nb1,0,none⟩=some (.int .i64 n.kind):=AO hn1 0
  have e1:W3.cell? ⟨nb1,1,none⟩=some (.int .i64 n.a):=AO hn1 1
  have e2:W3.cell? ⟨nb1,2,none⟩=some (.int .i64 (bk.length:Nat)):=AO hn1 2
  have e3:W3.cell? ⟨nb1,3,none⟩=some (.string n.text):=AO hn1 3
  have e4:W3.cell? ⟨nb1,4,none⟩=some (.int .i64 n.int):=AO hn1 4
  have e5:W3.cell? ⟨nb1,5,none⟩=some (.int .u64 n.bits):=AO hn1 5
  obtain⟨v2,w1,hrun,ho2,hg,hk⟩:=qG W3 23 (.slice ro dn.length rc) dn.length _ q7.out.out (by have:=q7.out.sz;omega) (n,bk.length) (by omega)
  have q8:=hid (q7.out.node ho2 hg)
  obtain⟨vo,vc,rfl⟩:=Ak ho2
  have HM4:Hid (Marks w.heap.size w1 ds):=by
   have hU:It.AL (λk=>(Value.slice ro dn.length rc).ownBlock=some k) W3 w1:=((It.AL.refl _ W3).alloc _).trans' ((It.AL.refl _ _).grown hg (λk e=>.inl e))
   refine Marks.kept ?_ ds HM3.out
   intro k _ hk
   refine hU.block k (z2z.1 hk).1 (λe=>?_)
   obtain⟨cur,hc⟩:=GH q7.out.out e
   rw[hc] at hk;cases hk
  unfold El at hrun
  clear ho2 hg hk q7 HM3 hn1
  go_upto_region 9 with((with_reducible refine Lib.wp_append_run _ (.tmp 35) (.tmp 37) 23 23 (by with_reducible rfl) ?vs ?vx ?hs ?hx ?vv ?ww ?hr ?hk);(case hs=>rfl);(case hx=>rfl);(case hr=>exact hrun))
  have hb8:=(q8.out.bel.block bb lb).trans H3.out
  have c6:w1.cell? ⟨bb,6,none⟩=some (.slice ko bk.length kc):=AO hb8 6
  have nr8:=hid (λk e=>(q8.out.rb (k:=k) e).2.1)
  have nu8:=hid (λk e=>(q8.out.ub (k:=k) e).2.1)
  clear e0 e1 e2 e3 e4 e5 hrun nu nr hb8
  go_wp2_with (go_at_call 36;(with_reducible refine(cb _ _ _ _).mono ?_);rintro e w8 ⟨rfl,hw8⟩;(have hw':=hw8.symm);subst hw';clear hw8)
  have bX:Below w1.heap.size w1 (w1.alloc (.cells #[.slice ko bk.length kc] 75)):=(z6z _ w1).alloc (z1z _) _
  have hbx:=z3z w1 (.cells #[.slice ko bk.length kc] 75)
  have q9:=q8.out.below bX
  have HM5:Hid (Marks w.heap.size (w1.alloc (.cells #[.slice ko bk.length kc] 75)) ds):=Marks.kept (λk _ hk=>bX.block k (z2z.1 hk).1) ds HM4.out
  have hz8:=q8.out.sz
  have sz4:(w1.alloc (.cells #[.slice ko bk.length kc] 75)).heap.size=w1.heap.size+1:=by simp
  clear bX HM4 q8 c6
  generalize hsb:w1.heap.size=sb at *
  generalize w1.alloc _=W4 at *
  clear hsb
  have k0:Kd w W4 sb (.slice ko bk.length kc) (.slice vo (dn.length+1) vc) L bk (dn++[(n,bk.length)]) 0 (λk=>k=w.heap.size+1\/(Value.slice (some ⟨g,0,none⟩) L.length c).ownBlock=some k) W4:=
   ⟨⟨_,by simpa using q9,λk e=>.inl (by have:=nu8.out k e;omega),λk=>Iff.rfl⟩,hbx,by omega,hz8,z1z _,λk e=>by have:=nr8.out k e;omega,λk hk=>hk⟩
  have hbl:bk.length<=1000000:=by
   have e1:=congrArg List.length HT.out
   have e2:=LQ ks
   have e3:=H6.out.len
   simp[AJ] at e1
   omega
  have HK0:=hid k0
  have sub4:Hid (∀W,Below w.heap.size w W->W.ownsRow 0 56 1 (.slice ko bk.length kc) bk.length (bk.map ptr)):=hid (λW hB=>Bq H4.out (λk e=>hB.block k (H4.out.lt k e).2))
  clear q9 nu8 nr8 hbx k0
  refine OX (pG sb 0 (.slice ko bk.length kc) bk (by omega)) uJ rfl (Kd w W4 sb (.slice ko bk.length kc) (.slice vo (dn.length+1) vc) L bk (dn++[(n,bk.length)])) (λ_ _=>False) ?hL ?hI ?hIx _ HK0.out ?A ?hsz ?assign ?body ?done ?stop
  case assign=>
   intro L' i hi W K hK
   rw[VQ]
   simp only[Qc,List.setIfInBounds_toArray,List.set_cons_succ,List.set_cons_zero]
   gi_wp2_with (simp only[Oper.semAt];go_simp)
   exact hK
  case hL=>
   intro i D W h
   obtain⟨u,q,h1,h2⟩:=h.q
   refine⟨⟨AO h.box 0,sub4.out W q.bel⟩,λk hk=>?_⟩
   rcases(h2 k).1 hk with rfl|e
   ·have:=q.sz;omega
   ·exact(q.ub e).2.1
  case hI=>intro i D W W' h hu;exact h.upd hu
  case hIx=>intro c W W' h;exact h.elim
  case hsz=>intro i hi;rw[VQ];rfl
  case stop=>intro c W h;exact h.elim
  case done=>
   intro D W h hD
   rw[RH] at h
   obtain⟨u,q,h1,h2⟩:=h.q
   have hM9:Marks w.heap.size W ({ target:=.collected W4.heap.size,args:=#[] }::ds):=by
    refine⟨⟨_,rfl,by omega,hD,?_⟩,Marks.kept (λk _ hk=>(h.keep k hk).trans hk.symm) ds HM5.out⟩
    intro d hd e
    obtain⟨r,h1,h2⟩:=Marks.lt ds HM5.out d hd
    rw[h1] at e
    injection e with e1 _
    injection e1 with e1
    omega
   have er:L++bk.reverse.take bk.length=L++bk.reverse:=by rw[List.take_of_length_le (by simp)]
   rw[er] at q
   have hf9:Ac w (λ_=>True) (L++bk.reverse).reverse (ks.app rs):=by
    rw[List.reverse_append,List.reverse_reverse]
    exact(H6.out.mono (λ_ _=>trivial)).app H7.out
   have hT9:(dn++[(n,bk.length)])++AJ (ks.app rs)=T:=by
    rw[<- HT.out,Ei,H6.out.len]
    simp[AJ]
   have hlt9:T.length-(dn.length+1)<T.length-dn.length:=by
    have:=congrArg List.length HT.out
    simp[AJ] at this
    omega
   exact⟨⟨⟨rfl,rfl⟩,hM9,u,_,_,_,q,hf9,hT9⟩,hlt9⟩
  case body=>
   intro L' i hi D W hLe h hs hlp
   subst hLe
   rw[RH] at hi
   obtain⟨u,q,h1,h2⟩:=h.q
   obtain⟨uo,uc,rfl⟩:=Ak q.row
   generalize hx:bk.getD (bk.length-1-i) 0=x at *
   have hll2:(L++bk.reverse.take i).length<=2000000:=by
    simp
    omega
   obtain⟨v2,w2,hrun,ho2,hg,hk⟩:=IC W 75 _ _ _ q.row (by have:=q.sz;omega) x hll2
   have hU:It.AL (λk=>(Value.slice uo (L++bk.reverse.take i).length uc).ownBlock=some k) W w2:=((It.AL.refl _ W).alloc _).trans' ((It.AL.refl _ _).grown hg (λk e=>.inl e))
   have bx:w2.heap[w.heap.size+1]? = some (.cells #[.slice uo (L++bk.reverse.take i).length uc] 75 (0,0)):=(hU.block _ (by have:=q.sz;omega) (λe=>(q.ub e).2.2.1 rfl)).trans q.box
   have fin:Hid (Mf (W4.heap.size+1) W4.heap.size D W (λW'=>∃D',Kd w W4 sb (.slice ko bk.length kc) (.slice vo (dn.length+1) vc) L bk (dn++[(n,bk.length)]) (i+1) D' W') (λ_ _=>False) .normal { tmps:=#[],defers:=[] } (w2.setCell ⟨w.heap.size+1,0,none⟩ v2)):=by
    have q2:=q.kid ho2 hg
    have lo:=h.lo
    have lt:=h.lt
    have hU2:It.AL (λk=>k=w.heap.size+1\/(Value.slice uo (L++bk.reverse.take i).length uc).ownBlock=some k) W (w2.setCell ⟨w.heap.size+1,0,none⟩ v2):=(hU.mono (λk e=>.inr e)).setCell (p:=⟨w.heap.size+1,0,none⟩) (.inl (.inl rfl)) _
    have ne:∀k,(k=W4.heap.size\/k=W4.heap.size+1\/k=sb)->¬ (k=w.heap.size+1\/(Value.slice uo (L++bk.reverse.take i).length uc).ownBlock=some k):=by
     rintro k hk (e|e)
     ·omega
     ·rcases hk with rfl|rfl|rfl
      ·rcases h1 _ e with g|g <;> omega
      ·rcases h1 _ e with g|g <;> omega
      ·obtain⟨cur,hc⟩:=GH q.row e
       rw[h.box] at hc;cases hc
    refine⟨⟨hU2.block _ (by omega) (ne _ (by omega)),hU2.block _ (by omega) (ne _ (by omega))⟩,λk hk1 hk2=>hU2.block k hk1 (λe=>hk2 ((h2 k).2 e)),(λk=>k=w.heap.size+1\/v2.ownBlock=some k),?_⟩
    refine⟨⟨v2,?_,?_,λk=>Iff.rfl⟩,(hU2.block _ (by omega) (ne _ (by omega))).trans h.box,h.lt,h.lo,z7z h.sz hU2.size,h.rb,λk hk=>(hU2.block k (z2z.1 (h.keep k hk)).1 ?_).trans (h.keep k hk)⟩
    ·rw[gP bk i hi,hx,<- List.append_assoc]
     exact q2
    ·intro k e
     rcases hk with e2|e2
     ·rw[e2] at e;exact h1 k e
     ·rw[e2] at e
      have:=Option.some.inj e
      rw[z5z] at this
      omega
    ·rintro(e|e)
     ·have:=h.keep k hk
      rw[e,q.box] at this;cases this
     ·obtain⟨cur,hc⟩:=GH q.row e
      rw[h.keep k hk] at hc;cases hc
   have co:W.cell? ⟨w.heap.size+1,0,none⟩=some (.slice uo (L++bk.reverse.take i).length uc):=AO q.box 0
   have c2:w2.cell? ⟨w.heap.size+1,0,none⟩=some (.slice uo (L++bk.reverse.take i).length uc):=AO bx 0
   have z2:=Bj bx 0
   obtain⟨vo2,vc2,rfl⟩:=Ak ho2
   generalize (L++bk.reverse.take i).length=nl at *
   clear q ho2 hg hk hU bx h1 h2 h
   gi_wp2_with (first|(with_reducible refine Uk _ (.tmp 46) (.tmp 48) 75 75 rfl _ _ (by simp[Act.eval]) (by simp[Act.eval]) _ _ hrun ?_)|(simp only[Oper.semAt];go_simp))
   exact fin.out
theorem iD(s:ByteArray)(hs:s.size<=1000000)(w:World)(ht:Tabs w)(hm:MarksIn w)(n:Nat)(fo:Fo)(s':Cs)(hP:P n (.pg .nil) ⟨Au s.data.toList,0⟩=some (.ok (fo,s')))(hbig:(AJ fo).length<=1000000) :
  Calls prog 12 #[.string s] w λe w'=>∃r,e=.returned (.tuple #[r,fv (0,0)])/\Below w.heap.size w w'/\w'.ownsRow w.heap.size 48 6 r (AJ fo).length (IL (AJ fo)):=by
 have hmf:∀ (fn:Fn) (first cap:Array Value) (w:World),(Instr.makeFunc fn first cap).run prog w=.ok (.func fn first cap) w:=λ_ _ _ _=>rfl
 have bA:Below w.heap.size w ((w.alloc (.cells #[.slice none 0 0] 23)).alloc (.cells #[.int .i64 0,.int .i64 0] 26)):=((z6z _ w).alloc (z1z _) _).alloc (by simp) _
 have cn:=Zv s hs _ (ht.below bA) (hm.below bA)
 have cp:=aF n
 go_enter_defers func12,ntmps12
 go_upto_region 2 with(go_at_call 19;(with_reducible refine cn.mono ?_);rintro e w2 ⟨rfl,b2,v,hc⟩;clear cn)
 simp only[z5z] at hc b2
 have lc:=(Cx.start hc).lt
 have z2:=b2.size
 simp only[z5z] at z2
 have n1:=z3z w (.cells #[.slice none 0 0] 23)
 have n2:=z3z (w.alloc (.cells #[.slice none 0 0] 23)) (.cells #[.int .i64 0,.int .i64 0] 26)
 simp only[z5z] at n2
 have bC:Below w2.heap.size w2 (w2.alloc (.cells #[ptr (w.heap.size+1+1)] 51)):=(z6z _ w2).alloc (z1z _) _
 have r0:=AY ((b2.block w.heap.size (by omega)).trans ((Below.heap_alloc _ _ _ (by simp)).trans n1)) bC
 have r1:=AY ((b2.block (w.heap.size+1) (by omega)).trans n2) bC
 have rn:=z3z w2 (.cells #[ptr (w.heap.size+1+1)] 51)
 have hx:=((Cx.start hc).below bC)
 have hc3:Cv (w2.alloc (.cells #[ptr (w.heap.size+1+1)] 51)) (w.heap.size+1+1) (Au s.data.toList) v ⟨Au s.data.toList,0⟩:=hx.cv
 have bW:Below w.heap.size w (w2.alloc (.cells #[ptr (w.heap.size+1+1)] 51)):=bA.trans ((b2.mono (by omega)).trans (bC.mono (by omega)))
 have zz:w2.heap.size<(w2.alloc (.cells #[ptr (w.heap.size+1+1)] 51)).heap.size:=by simp
 generalize w2.alloc (.cells #[ptr (w.heap.size+1+1)] 51)=W3 at *
 generalize hnc:w2.heap.size=nc at *
 have cpe:=cp.ok (Cx.start hc3) hP
 have cn0:W3.cell? ⟨nc,0,none⟩=some (ptr (w.heap.size+1+1)):=AO rn 0
 have HH:=hid (z4z r0 (z4z r1 (z4z rn (z4z bW (z4z zz (z4z z2 lc))))))
 clear hx hc hc3 bC n1 n2 r0 r1 rn bW bA b2 cp ht hm hP
 have crow:=nV
 go_wp2_with (first|(go_at_call 21;(with_reducible refine cpe.mono ?_);rintro e w4 ⟨x,rfl,hcx,hu,hfo⟩;clear cpe)|(go_at_call 22;(with_reducible refine(crow w4 x fo (hfo.mono (λ_ _=>trivial)) hbig).mono ?_);rintro e w5 ⟨r,rfl,b5,ho5⟩;(obtain⟨r0,r1,rn,bW,zz,z2,lc⟩:=HH.out);(have q0:=AY ((hu.block w.heap.size (by omega) (by omega)).trans r0) b5);(have q1:=AY ((hu.block (w.heap.size+1) (by omega) (by omega)).trans r1) b5);(have g0:=AO q0 0);(have g1:=AO q1 0);(have g2:=AO q1 1);(have y0:=Bj q0);(have y1:=Bj q1);(obtain⟨ro,rc,rfl⟩:=Ak ho5)))
 obtain⟨r0,r1,rn,bW,zz,z2,lc⟩:=HH.out
 have s4:=hu.size
 have p0:=Bu (c:=[.slice none 0 0]) q0 0 (.slice ro (AJ fo).length rc)
 have p1:=(z0z w5 ⟨w.heap.size,0,none⟩ (.slice ro (AJ fo).length rc) (w.heap.size+1) (by show w.heap.size+1≠w.heap.size;omega)).trans q1
 have p2:=Bu (c:=[.int .i64 0,.int .i64 0]) (Bu (c:=[.int .i64 0,.int .i64 0]) p1 0 (.int .i64 0)) 1 (.int .i64 0)
 have p3:=(z0z _ ⟨w.heap.size+1,1,none⟩ (.int .i64 0) w.heap.size (by show w.heap.size≠w.heap.size+1;omega)).trans ((z0z _ ⟨w.heap.size+1,0,none⟩ (.int .i64 0) w.heap.size (by show w.heap.size≠w.heap.size+1;omega)).trans p0)
 have bE:Below w.heap.size w w5:=(bW.trans (hu.below (by omega) (λk e=>by omega))).trans (b5.mono (by omega))
 refine leaves_cons (f:=20) (args:=#[ptr nc,ptr w.heap.size,ptr (w.heap.size+1)]) (by simp) (by simp[go_sem]) ?_
 refine(vE _ _ _ _).mono ?_
 rintro e u' w'' ⟨rfl,rfl,rfl⟩
 show Leaves _ _ _ _ [] (settle _) _
 simp only[settle]
 refine⟨_,Yo rfl _ _ w.heap.size (w.heap.size+1) (.slice ro (AJ fo).length rc) (.int .i64 0) (.int .i64 0) _ _ _ (by simp) (by simp) p3 p2,_,rfl,?_,?_⟩
 ·exact((bE.setCell (by show w.heap.size<=w.heap.size;omega) _).setCell (by show w.heap.size<=w.heap.size+1;omega) _).setCell (by show w.heap.size<=w.heap.size+1;omega) _
 ·have hlo:∀k,(Value.slice ro (AJ fo).length rc).ownBlock=some k->w.heap.size+2<=k:=λk e=>by have:=(ho5.lt k e).1;omega
  refine Lp (Bq ho5 (λk e=>?_)) (λk e=>by have:=hlo k e;omega)
  have:=hlo k e
  exact(z0z _ _ _ _ (by show k≠w.heap.size+1;omega)).trans ((z0z _ _ _ _ (by show k≠w.heap.size+1;omega)).trans (z0z _ _ _ _ (by show k≠w.heap.size;omega)))
end Go.Proofs.YtjplieobnknnpaaGreatDoor.W.Tr

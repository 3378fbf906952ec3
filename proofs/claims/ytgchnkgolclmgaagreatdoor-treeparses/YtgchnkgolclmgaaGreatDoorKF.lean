import Derived.Test.YtgchnkgolclmgaaGreatDoorJG
import Derived.Test.YtgchnkgolclmgaaGreatDoorShelfP
import Derived.Lib.Builder
import Derived.Lib.AppendStr
import Derived.Lib.UnsafeStr
import Derived.Laws.Externs
import Derived.Test.YtgchnkgolclmgaaGreatDoorKN
import Derived.Test.YtgchnkgolclmgaaGreatDoorKD
import Derived.Test.YtgchnkgolclmgaaGreatDoorShelfQ
open List renaming length_nil → dI, length_append → dR, getElem?_eq_some_iff → lH
open Array renaming getElem?_eq_some_iff → aY
open Nat renaming le_trans → bY, le_refl → dQ
open Go.World renaming alloc_heap_new → eU, size_alloc → gI
open Go.RowKit.Below renaming heap_setCell → ay, heap_alloc → gL
open Bool renaming and_eq_true → gy
open Option renaming map_eq_some_iff → jl
open Go.Lib renaming byteCells → aH, cell_of_heap → aL, BuilderAt → bO
open Go.Proofs.Tryz
set_option maxRecDepth 1000000
set_option maxHeartbeats 8000000
namespace Go.Proofs.YtgchnkgolclmgaaGreatDoor.W.Tr
open Go.ChangeShapes Go.WideShapes Go.RowKit Go.Shelf
set_option linter.unusedVariables false
set_option linter.unusedSimpArgs false
theorem szB:(prog.info? 102).map (·.size)=some 2:=by kernel_rfl
theorem VW:liesAt prog prog.depth 102 (2/prog.cellsOf 102) 0 102 1=true:=by kernel_rfl
theorem MH:(prog.info? 5).map (λi=>(i.zero,i.size,i.bytes))=some (some (.int .u8 0),1,1):=by kernel_rfl
def Bd(B b:Nat)(l:List UInt8)(W:World):Prop:=Lib.IsBuilder 102 5 B b (aH l) W
def Np(b:Nat)(W W':World):Prop:=It.bL (λk=>k=b\/∃cur,W.heap[k]? = some (.cells cur 5 (0,0))) W W'
theorem Mx(b:Nat)(w:World)(h0:w.cell? ⟨b,0,none⟩=some (.pointer (some ⟨b,0,none⟩))) :
  Calls prog 94 #[.pointer (some ⟨b,0,none⟩)] w λe w'=>e=.returned (.tuple #[])/\w'=w:=by
 obtain⟨j,hj,_⟩:=jl.1 szB
 go_enter func94,ntmps94
 go_wp2
 rw[Lib.run_neq_ptr_same w _ underlying99 hj]
 go_wp2
 go_end0
 exact⟨rfl,rfl⟩
theorem Jc(b:Nat)(w:World)(h0:w.cell? ⟨b,0,none⟩=some (.pointer none))(hsh:w.shape? b=some (102,2))(hfz:w.frozen? ⟨b,0,none⟩=false) :
  Calls prog 94 #[.pointer (some ⟨b,0,none⟩)] w λe w'=>e=.returned (.tuple #[])/\w'=w.setCell ⟨b,0,none⟩ (.pointer (some ⟨b,0,none⟩)):=by
 obtain⟨j,hj,hjs⟩:=jl.1 szB
 go_enter func94,ntmps94
 go_wp2
 rw[Lib.run_to_unsafe w ⟨b,0,none⟩ underlying99 underlying146 hj (by rw[hjs];decide) hsh (Nat.zero_lt_succ 1)]
 simp only[Result.andThen]
 rw[Oper.upon_value]
 go_wp2
 rw[run_callFunc_extern func134 (by kernel_rfl) (by kernel_rfl) (by kernel_rfl) (e:=Extern.AbiNoEscape.same) (by kernel_rfl)]
 rw[Lib.run_noEscape]
 simp only[Result.andThen]
 rw[Oper.upon_value]
 go_wp2
 rw[Lib.run_from_unsafe w ⟨b,0,none⟩ underlying146 underlying99 hj hsh VW]
 simp only[Result.andThen]
 rw[Oper.upon_value]
 go_wp2
 go_end0
 exact⟨rfl,rfl⟩
theorem Q9(B b:Nat)(bs:List Value)(w:World)(h:Lib.IsBuilder 102 5 B b bs w) :
  Calls prog 94 #[.pointer (some ⟨b,0,none⟩)] w λe w'=>e=.returned (.tuple #[])/\(bO 102 5 B b (.pointer (some ⟨b,0,none⟩)) bs w'/\It.bL (λk=>k=b) w w'):=by
 rcases h with h|h
 ·refine(Jc b w h.cell0 h.shape h.frozen0).mono ?_
  rintro e w' ⟨rfl,rfl⟩
  exact⟨rfl,h.used _,(It.bL.refl (λk=>k=b) w).setCell (p:=⟨b,0,none⟩) (.inl rfl) _⟩
 ·refine(Mx b w h.cell0).mono ?_
  rintro e w' ⟨rfl,rfl⟩
  exact⟨rfl,h,It.bL.refl _ _⟩
theorem R5{W:World}{B:Nat}{v:Value}{n:Nat}{xs:List Value}(h:W.ownsRow B 5 1 v n xs){k:Nat}(hk:v.ownBlock=some k):∃cur,W.heap[k]? = some (.cells cur 5 (0,0)):=by
 rcases h.2 with⟨rfl,_⟩|⟨g,cap,cur,rfl,h2,h3,_⟩
 ·cases hk
 ·cases hk;exact⟨cur,h3⟩
theorem Bg{w w1 w2:World}{b:Nat}{v:Value}{B n:Nat}{xs:List Value}(hB:B<=b)(hBw:B<=w.heap.size)(hb1:It.bL (λk=>k=b) w w1)(hown:w1.ownsRow B 5 1 v n xs)(hne:v.ownBlock≠some b)(hu:It.bL (λk=>v.ownBlock=some k) w1 w2)(q:Value):Np b w (w2.setCell ⟨b,1,none⟩ q)/\Below B w (w2.setCell ⟨b,1,none⟩ q):=by
 have hn:∀k,v.ownBlock=some k->It.Nx (λk=>k=b\/∃cur,w.heap[k]? = some (.cells cur 5 (0,0))) w w1 k:=by
  intro k e
  have hk:=hown.lt k e
  obtain⟨cur,hc⟩:=R5 hown e
  rcases Nat.lt_or_ge k w.heap.size with hlt|hge
  ·refine .inl (.inr ⟨cur,?_⟩)
   rw[<- hb1.block k hlt (by rintro rfl;exact hne e)]
   exact hc
  ·exact .inr ⟨hge,hk.2⟩
 have h1:It.bL (λk=>k=b\/∃cur,w.heap[k]? = some (.cells cur 5 (0,0))) w w2:=(hb1.mono (λk e=>.inl e)).trans (hu.mono hn)
 refine⟨h1.setCell (p:=⟨b,1,none⟩) (.inl (.inl rfl)) _,?_⟩
 have h2:Below B w w2:=(hb1.below hBw (λk e=>by omega)).trans (hu.below (bY hBw hb1.size) (λk e=>(hown.lt k e).1))
 exact h2.setCell (p:=⟨b,1,none⟩) hB _
theorem F8(B b:Nat)(l:List UInt8)(c:UInt8)(w:World)(h:Bd B b l w)(hlen:l.length+1<=140737488355328)(hBw:B<=w.heap.size) :
  Calls prog 63 #[.pointer (some ⟨b,0,none⟩),.int .u8 c.toNat] w λe w'=>e=.returned .nilIface/\(Bd B b (l++[c]) w'/\Np b w w'/\Below B w w'):=by
 have cc:=Q9 B b _ w h
 obtain⟨i0,hi,hz0,hz1,hz2⟩:=info_parts MH
 have e1:(aH l).length=l.length:=by simp[aH]
 go_enter func63,ntmps63
 go_wp2_with (go_at_call 94;(with_reducible refine cc.mono ?_))
 rintro e w1 ⟨rfl,h1,hb1⟩
 obtain⟨hB,v,hbk,hown,hne⟩:=h1
 have c0:w1.cell? ⟨b,0,none⟩=some (.pointer (some ⟨b,0,none⟩)):=by rw[aL hbk];rfl
 have c1:w1.cell? ⟨b,1,none⟩=some v:=by rw[aL hbk];rfl
 go_wp2_with (at_builtin;refine wpList_append_own _ rfl _ _ 100 rfl B 5 i0 (.int .u8 0) 1 1 underlying100 hi hz0 hz1 hz2 rfl (by decide) _ _ _ rfl (hown.alloc _) ⟨w1.heap.size,0,none⟩ 1 1 [.int .u8 c.toNat] rfl rfl ?c1 ?c2 ?c3 ?c4 ?c5 ?_)
 case c1=>
  intro j u hj
  match j,hj with
  | 0,hj=>simp at hj;subst hj;simp[Addr.add]
 case c2=>intro u hu;simp at hu;subst hu;rfl
 case c3=>unfold maxLen;omega
 case c4=>omega
 case c5=>have:=hb1.size;simp;omega
 intro v' w2 hown' hgrow _
 have hlt:b<w1.heap.size:=(aY.1 hbk).1
 have hu:It.bL (λk=>v.ownBlock=some k) w1 w2:=((It.bL.refl _ w1).alloc _).trans' ((It.bL.refl _ _).grown hgrow (λk e=>.inl e))
 have hb2:w2.heap[b]? = some (.cells #[.pointer (some ⟨b,0,none⟩),v] 102 (0,0)):=(hu.block b hlt hne).trans hbk
 have d0:w2.cell? ⟨b,0,none⟩=some (.pointer (some ⟨b,0,none⟩)):=by rw[aL hb2];rfl
 have d1:w2.cell? ⟨b,1,none⟩=some v:=by rw[aL hb2];rfl
 have f1:w2.frozen? ⟨b,1,none⟩=false:=Lib.frozen_of_heap hb2 1
 obtain⟨g,cap,rfl⟩:∃g cap,v'=.slice (some ⟨g,0,none⟩) (l.length+1) cap:=by
  rcases hown'.2 with⟨_,h0⟩|⟨g,cap,cur,hv,_⟩
  ·omega
  ·exact⟨g,cap,hv⟩
 have fin:=Bg hB hBw hb1 hown hne hu (.slice (some ⟨g,0,none⟩) (l.length+1) cap)
 go_wp2
 go_ret
 refine⟨rfl,.inr ?_,fin⟩
 exact bO.put (T:=102) (e:=5) hB hb2 (bs':=aH (l++[c])) (by simpa [aH] using hown') (by decide)
theorem Jt(B b:Nat)(l:List UInt8)(s:ByteArray)(w:World)(h:Bd B b l w)(hlen:l.length+s.size<=140737488355328)(hBw:B<=w.heap.size) :
  Calls prog 64 #[.pointer (some ⟨b,0,none⟩),.string s] w λe w'=>e=.returned (.tuple #[.int .i64 s.size,.nilIface])/\(Bd B b (l++s.data.toList) w'/\Np b w w'/\Below B w w'):=by
 have cc:=Q9 B b _ w h
 obtain⟨i0,hi,hz0,hz1,hz2⟩:=info_parts MH
 have e1:(aH l).length=l.length:=by simp[aH]
 go_enter func64,ntmps64
 go_wp2_with (go_at_call 94;(with_reducible refine cc.mono ?_))
 rintro e w1 ⟨rfl,h1,hb1⟩
 obtain⟨hB,v,hbk,hown,hne⟩:=h1
 have c0:w1.cell? ⟨b,0,none⟩=some (.pointer (some ⟨b,0,none⟩)):=by rw[aL hbk];rfl
 have c1:w1.cell? ⟨b,1,none⟩=some v:=by rw[aL hbk];rfl
 go_wp2_with (at_builtin;refine Lib.wpList_append_own_string _ rfl _ _ 100 9 rfl B 5 i0 underlying100 underlying9 hi hz0 hz1 hz2 _ _ _ rfl hown s rfl ?c3 ?c4 ?c5 ?_)
 case c3=>unfold maxLen;omega
 case c4=>omega
 case c5=>have:=hb1.size;omega
 intro v' w2 hown' hgrow _
 have hlt:b<w1.heap.size:=(aY.1 hbk).1
 have hu:It.bL (λk=>v.ownBlock=some k) w1 w2:=(It.bL.refl _ _).grown hgrow (λk e=>.inl e)
 have hb2:w2.heap[b]? = some (.cells #[.pointer (some ⟨b,0,none⟩),v] 102 (0,0)):=(hu.block b hlt hne).trans hbk
 have d0:w2.cell? ⟨b,0,none⟩=some (.pointer (some ⟨b,0,none⟩)):=by rw[aL hb2];rfl
 have d1:w2.cell? ⟨b,1,none⟩=some v:=by rw[aL hb2];rfl
 have f1:w2.frozen? ⟨b,1,none⟩=false:=Lib.frozen_of_heap hb2 1
 obtain⟨ao,n',cap,rfl⟩:∃ao n' cap,v'=.slice ao n' cap:=by
  rcases hown'.2 with⟨hv,_⟩|⟨g,cap,cur,hv,_⟩
  ·exact⟨_,_,_,hv⟩
  ·exact⟨_,_,_,hv⟩
 have fin:=Bg hB hBw hb1 hown hne hu (.slice ao n' cap)
 go_wp2
 go_ret2
 refine⟨rfl,.inr ?_,fin⟩
 refine bO.put (T:=102) (e:=5) hB hb2 (bs':=aH (l++s.data.toList)) ?_ (by decide)
 have e2:aH (l++s.data.toList)=aH l++Lib.strCells s:=by simp[aH,Lib.strCells]
 rw[e2,dR,Lib.strCells_length,e1]
 exact hown'
structure Pq (w W:World) (u bv:Value) (ls:List ByteArray) (out:List UInt8):Prop where
 bf:Below w.heap.size w W
 sz:w.heap.size+3<=W.heap.size
 box:W.heap[w.heap.size+2]? = some (.cells #[u] 86 (0,0))
 row:OS W w.heap.size u ls
 Qa:W.ownsRow w.heap.size 5 1 bv out.length (aH out)
 Tc:∃p,(p=.pointer none\/p=.pointer (some ⟨w.heap.size,0,none⟩))/\W.heap[w.heap.size]? = some (.cells #[p,bv] 102 (0,0))
section
variable {w W W':World} {u bv u' bv':Value} {ls:List ByteArray} {out:List UInt8} {S:Nat->Prop}
theorem Pq.ub(q:Pq w W u bv ls out){k:Nat}(e:u.ownBlock=some k):w.heap.size<=k/\k<W.heap.size/\k≠w.heap.size+2/\k≠w.heap.size/\bv.ownBlock≠some k:=by
 obtain⟨cur,hc⟩:=fQ q.row e
 obtain⟨p,_,hp⟩:=q.Tc
 refine⟨(q.row.lt k e).1,(q.row.lt k e).2,?_,?_,?_⟩
 ·rintro rfl
  rw[q.box] at hc;cases hc
 ·rintro rfl
  rw[hp] at hc;cases hc
 ·intro er
  obtain⟨cur',hc'⟩:=fQ q.Qa er
  rw[hc] at hc';cases hc'
theorem Pq.rb(q:Pq w W u bv ls out){k:Nat}(e:bv.ownBlock=some k):w.heap.size<=k/\k<W.heap.size/\k≠w.heap.size+2/\k≠w.heap.size/\u.ownBlock≠some k:=by
 obtain⟨cur,hc⟩:=fQ q.Qa e
 obtain⟨p,_,hp⟩:=q.Tc
 refine⟨(q.Qa.lt k e).1,(q.Qa.lt k e).2,?_,?_,?_⟩
 ·rintro rfl
  rw[q.box] at hc;cases hc
 ·rintro rfl
  rw[hp] at hc;cases hc
 ·intro er
  exact(q.ub er).2.2.2.2 e
theorem Pq.keep(q:Pq w W u bv ls out)(hU:It.bL S W W')(hS:∀k,S k->w.heap.size<=k/\k≠w.heap.size+2/\k≠w.heap.size/\u.ownBlock≠some k/\bv.ownBlock≠some k):Pq w W' u bv ls out:=by
 have z:=q.sz
 obtain⟨p,hp0,hp⟩:=q.Tc
 refine⟨q.bf.trans (hU.below (by omega) (λk e=>(hS k e).1)),bY z hU.size,(hU.block _ (by omega) (λe=>(hS _ e).2.1 rfl)).trans q.box,bD q.row (λk e=>hU.block k (q.ub e).2.1 (λg=>(hS k g).2.2.2.1 e)),bD q.Qa (λk e=>hU.block k (q.rb e).2.1 (λg=>(hS k g).2.2.2.2 e)),p,hp0,(hU.block _ (by omega) (λe=>(hS _ e).2.2.1 rfl)).trans hp⟩
theorem Pq.below(q:Pq w W u bv ls out)(hB:Below W.heap.size W W'):Pq w W' u bv ls out:=
 q.keep (S:=λ_=>False) (It.bL.of_below hB) (λk e=>e.elim)
theorem Pq.set{ls':List ByteArray}(q:Pq w W u bv ls out)(h:OS W w.heap.size u' ls'):Pq w (W.setCell ⟨w.heap.size+2,0,none⟩ u') u' bv ls' out:=by
 have z:=q.sz
 obtain⟨p,hp0,hp⟩:=q.Tc
 have hn:∀k,u'.ownBlock=some k->k≠w.heap.size+2:=by
  rintro k e rfl
  obtain⟨cur,hc⟩:=fQ h e
  rw[q.box] at hc;cases hc
 refine⟨q.bf.setCell (by show w.heap.size<=w.heap.size+2;omega) _,by simp[World.setCell];exact z,aM (c:=[u]) q.box 0 u',bD h (λk e=>ay _ _ _ _ (hn k e)),bD q.Qa (λk e=>ay _ _ _ _ (q.rb e).2.2.1),p,hp0,(ay _ _ _ _ (by show w.heap.size≠w.heap.size+2;omega)).trans hp⟩
theorem Rp{W:World}{B g n c:Nat}{L:List ByteArray}{x:ByteArray}(h:OS W B (.slice (some ⟨g,0,none⟩) n c) (L++[x])):OS W B (.slice (some ⟨g,0,none⟩) L.length c) L:=by
 unfold OS at *
 rcases h.2 with⟨h0,_⟩|⟨g',cap,cur,h0,h2,h3,h4,h5,h6,h7⟩
 ·cases h0
 ·simp only[dR,List.length_cons,dI,Value.slice.injEq,Option.some.injEq,Addr.mk.injEq,true_and,and_true] at h0
  obtain⟨rfl,h0,rfl⟩:=h0
  refine⟨by simp,.inr ⟨g,c,cur,rfl,h2,h3,?_,h5,h6,?_⟩⟩
  ·simp at h4;omega
  ·have h8:=congrArg (List.take L.length) h7
   have e9:((L++[x]).map Value.string).take L.length=L.map Value.string:=by
    rw[List.map_append,List.take_append_of_le_length (by simp),List.take_of_length_le (by simp)]
   rw[List.take_take,e9,show min L.length ((L++[x]).length*1)=L.length by simp] at h8
   rw[Nat.mul_one,h8]
theorem Pq.push{x:ByteArray}{w1:World}(q:Pq w W u bv ls out)(h2:OS w1 w.heap.size u' (ls++[x]))(h3:(W.alloc (.cells #[.string x] 9)).grownBy w1 u.ownBlock):Pq w (w1.setCell ⟨w.heap.size+2,0,none⟩ u') u' bv (ls++[x]) out:=by
 have z:=q.sz
 have hU:It.bL (λk=>u.ownBlock=some k) W w1:=((It.bL.refl _ W).alloc _).trans' ((It.bL.refl _ _).grown h3 (λk e=>.inl e))
 obtain⟨p,hp0,hp⟩:=q.Tc
 have q1:w1.heap[w.heap.size+2]? = some (.cells #[u] 86 (0,0)):=(hU.block _ (by omega) (λe=>(q.ub e).2.2.1 rfl)).trans q.box
 have hn:∀k,u'.ownBlock=some k->k≠w.heap.size+2:=by
  rintro k e rfl
  obtain⟨cur,hc⟩:=fQ h2 e
  rw[q1] at hc;cases hc
 refine⟨(q.bf.trans (hU.below (by omega) (λk e=>(q.ub e).1))).setCell (by show w.heap.size<=w.heap.size+2;omega) _,by have:=hU.size;simp[World.setCell];omega,aM (c:=[u]) q1 0 u',bD h2 (λk e=>ay _ _ _ _ (hn k e)),bD q.Qa (λk e=>(ay _ _ _ _ (q.rb e).2.2.1).trans (hU.block k (q.rb e).2.1 (q.rb e).2.2.2.2)),p,hp0,(ay _ _ _ _ (by show w.heap.size≠w.heap.size+2;omega)).trans ((hU.block _ (by omega) (λe=>(q.ub e).2.2.2.1 rfl)).trans hp)⟩
theorem Pq.bd(q:Pq w W u bv ls out):Bd w.heap.size w.heap.size out W:=by
 obtain⟨p,hp0,hp⟩:=q.Tc
 have h:bO 102 5 w.heap.size w.heap.size p (aH out) W:=by
  refine⟨dQ _,bv,hp,?_,λe=>(q.rb e).2.2.2.1 rfl⟩
  rw[show (aH out).length=out.length by simp[aH]]
  exact q.Qa
 rcases hp0 with rfl|rfl
 ·exact .inl h
 ·exact .inr h
theorem Pq.wrote{out':List UInt8}(q:Pq w W u bv ls out)(h:Bd w.heap.size w.heap.size out' W')(hU:Np w.heap.size W W')(hB:Below w.heap.size W W'):∃bv',Pq w W' u bv' ls out':=by
 have z:=q.sz
 have hl:(aH out').length=out'.length:=by simp[aH]
 have key:∀p,(p=.pointer none\/p=.pointer (some ⟨w.heap.size,0,none⟩))->bO 102 5 w.heap.size w.heap.size p (aH out') W'->∃bv',Pq w W' u bv' ls out':=by
  rintro p hp ⟨_,v,hv,ho,_⟩
  rw[hl] at ho
  refine⟨v,q.bf.trans hB,bY z hU.size,(hU.block _ (by omega) ?_).trans q.box,bD q.row (λk e=>hU.block k (q.ub e).2.1 ?_),ho,p,hp,hv⟩
  ·rintro(e|⟨cur,e⟩)
   ·omega
   ·rw[q.box] at e;cases e
  ·rintro(g|⟨cur,g⟩)
   ·exact(q.ub e).2.2.2.1 g
   ·obtain⟨cur',hc⟩:=fQ q.row e
    rw[hc] at g;cases g
 rcases h with h|h
 ·exact key _ (.inl rfl) h
 ·exact key _ (.inr rfl) h
end
theorem LQ(w:World):Pq w (((w.alloc (.cells #[.pointer none,.slice none 0 0] 102)).alloc (.cells #[.string ⟨#[]⟩] 9)).alloc (.cells #[.slice (some ⟨w.heap.size+1,0,none⟩) 1 1] 86)) (.slice (some ⟨w.heap.size+1,0,none⟩) 1 1) (.slice none 0 0) [tK] []:=by
 have n1:=eU w (.cells #[.pointer none,.slice none 0 0] 102)
 have n2:=eU (w.alloc (.cells #[.pointer none,.slice none 0 0] 102)) (.cells #[.string ⟨#[]⟩] 9)
 have n3:=eU ((w.alloc (.cells #[.pointer none,.slice none 0 0] 102)).alloc (.cells #[.string ⟨#[]⟩] 9)) (.cells #[.slice (some ⟨w.heap.size+1,0,none⟩) 1 1] 86)
 simp only[gI] at n2 n3
 have m1:=(gL (w.alloc (.cells #[.pointer none,.slice none 0 0] 102)) (.cells #[.string ⟨#[]⟩] 9) w.heap.size (by simp)).trans n1
 refine⟨(((Below.refl _ w).alloc (dQ _) _).alloc (by simp) _).alloc (by simp only[gI];omega) _,by simp,n3,eY (l:=[.string ⟨#[]⟩]) (ts:=[tK]) rfl ((gL _ _ _ (by simp)).trans n2) (by omega) (by simp),World.ownsRow_nil _ _ _ _,_,.inl rfl,(gL _ _ _ (by simp only[gI];omega)).trans m1⟩
theorem Sb(f:Nat->Value):(List.range 49).map f=[f 0,f 1,f 2,f 3,f 4,f 5,f 6,f 7,f 8,f 9,f 10,f 11,f 12,f 13,f 14,f 15,f 16,f 17,f 18,f 19,f 20,f 21,f 22,f 23,f 24,f 25,f 26,f 27,f 28,f 29,f 30,f 31,f 32,f 33,f 34,f 35,f 36,f 37,f 38,f 39,f 40,f 41,f 42,f 43,f 44,f 45,f 46,f 47,f 48]:=rfl
def VI(x0 x3 x4 x5:Value)(u:Nat->Value):Array Value:=#[x0,u 1,u 2,x3,x4,x5,u 6,u 7,u 8,u 9,u 10,u 11,u 12,u 13,u 14,u 15,u 16,u 17,u 18,u 19,u 20,u 21,u 22,u 23,u 24,u 25,u 26,u 27,u 28,u 29,u 30,u 31,u 32,u 33,u 34,u 35,u 36,u 37,u 38,u 39,u 40,u 41,u 42,u 43,u 44,u 45,u 46,u 47,u 48]
theorem O8(t:Array Value){x0 x3 x4 x5:Value}(hs:t.size=49)(h0:t.getD 0 undef=x0)(h3:t.getD 3 undef=x3)(h4:t.getD 4 undef=x4)(h5:t.getD 5 undef=x5):∃u,t=VI x0 x3 x4 x5 u:=by
 refine⟨λn=>t.getD n undef,?_⟩
 subst h0 h3 h4 h5
 have e:t.toList=(List.range 49).map (λn=>t.getD n undef):=by
  apply List.ext_getElem?
  intro i
  by_cases hi:i<49
  ·rw[List.getElem?_map,List.getElem?_range hi]
   simp[hi,hs]
  ·rw[List.getElem?_eq_none (by simp;omega),List.getElem?_eq_none (by simp;omega)]
 rw[Sb] at e
 have:t=t.toList.toArray:=by simp
 rw[this,e]
 rfl
def O4(tk:Nd × Nat->List ByteArray)(L:List (Nd × Nat)):Nat->List ByteArray->Nat->List UInt8->Option (List UInt8)
 | 0,_,_,_=>none
 | f+1,[],at',out=>some (if out=[] then [] else out++[10])
 | f+1,s::ls,at',out=>if s.toList==[] then (match L[at']? with
   | some p=>if (tk p).length+ls.length<=2000000 then O4 tk L f (tk p++ls) (at'+1) out else none
   | none=>none)
  else if out.length+s.size+2<=1000000000 then O4 tk L f ls at' ((if out=[] then [] else out++[32])++s.data.toList) else none
def MB:Option Value->Nat
 | some (.slice _ n _)=>n
 | _=>0
theorem QN(b:Nat)(l:List UInt8)(w:World)(h:Bd b b l w):Calls prog 62 #[.pointer (some ⟨b,0,none⟩)] w λe w'=>e=.returned (.int .i64 (l.length:Nat))/\w'=w:=by
 have:=Tryz.Builder_Len b b (aH l) w h
 rwa [show (aH l).length=l.length by simp[aH]] at this
theorem QD(b:Nat)(l:List UInt8)(w:World)(h:Bd b b l w)(hB:b<=w.heap.size):Calls prog 65 #[.pointer (some ⟨b,0,none⟩)] w λe w'=>e=.returned (.string ⟨l.toArray⟩)/\Below b w w'/\∀k:Nat,w.heap[k]? = some (.deferred (some []))->k≠b->w'.heap[k]? = some (.deferred (some [])):=by
 refine(Tryz.Builder_String_any_k b b l w (Lib.IsBuilderF.of h) hB).mono ?_
 rintro e w' ⟨rfl,_,h2,h3⟩
 refine⟨rfl,h2,λk hk hne=>h3 k _ hk (λe=>hne (Option.some.inj e)) (λc fz e=>by cases e)⟩
theorem vO{w W W':World}{ds:List Deferred}(h:Marks w.heap.size W ds)(hU:Np w.heap.size W W')(hb:∃c t,W.heap[w.heap.size]? = some (.cells c t (0,0))):Marks w.heap.size W' ds:=by
 refine Marks.kept ?_ ds h
 intro k _ hk
 refine hU.block k (aY.1 hk).1 ?_
 rintro(rfl|⟨cur,e⟩)
 ·obtain⟨c,t,hc⟩:=hb
  rw[hc] at hk;cases hk
 ·rw[e] at hk;cases hk
theorem Pq.blk{w W:World}{u bv:Value}{ls:List ByteArray}{out:List UInt8}(q:Pq w W u bv ls out):∃c t,W.heap[w.heap.size]? = some (.cells c t (0,0)):=by
 obtain⟨p,_,hp⟩:=q.Tc
 exact⟨_,_,hp⟩
theorem FY(W:World)(ty:TypeId)(v:Value)(n:Nat)(xs:List Value){B0:Nat}(hown:W.ownsRow B0 9 1 v n xs)(hB:B0<=W.heap.size)(x:ByteArray)(hn:n<=4000000):∃v' w',(Builtin.append_ #[86,86] ty #[v,.slice (some ⟨W.heap.size,0,none⟩) 1 1]).run prog (W.alloc (.cells #[.string x] 9))=.ok v' w'/\w'.ownsRow B0 9 1 v' (n+1) (xs++[.string x])/\(W.alloc (.cells #[.string x] 9)).grownBy w' v.ownBlock/\(v'.ownBlock=v.ownBlock\/v'.ownBlock=some (W.alloc (.cells #[.string x] 9)).heap.size):=by
 obtain⟨i0,hi,hz0,hz1,hz2⟩:=info_parts DC
 have e0:=World.cell?_alloc_new W #[.string x] 9
 have ho:=hown.alloc (.cells #[.string x] 9)
 obtain⟨v',w',h1,h2,h3,_,h5⟩:=run_append_own_at (P:=prog) (W.alloc (.cells #[.string x] 9)) B0 86 ty 9 i0 _ 1 16 qY hi hz0 hz1 hz2 rfl (by omega) v n xs ho ⟨W.heap.size,0,none⟩ 1 1 [.string x] (by simp) (by
  intro j u hj
  have e1:((⟨W.heap.size,0,none⟩:Addr).add j)=⟨W.heap.size,j,none⟩:=by simp[Addr.add];intro e;exact e.symm
  rw[e1,e0 j]
  simpa using hj) (by
  intro u hu
  simp at hu
  rcases hu with rfl
  rfl) (by unfold maxLen;omega) (by omega) (by simp;omega)
 exact⟨v',w',h1,h2,h3,h5⟩
structure Kt (w W4:World) (lo sb:Nat) (kv bv:Value) (out:List UInt8) (L bk:List ByteArray) (i:Nat) (D:Nat->Prop) (W:World):Prop where
 q:∃u,Pq w W u bv (L++bk.reverse.take i) out/\(∀k,u.ownBlock=some k->k<lo\/W4.heap.size+2<=k)/\∀k,D k↔k=w.heap.size+2\/u.ownBlock=some k
 box:W.heap[sb]? = some (.cells #[kv] 86 (0,0))
 kr:OS W lo kv bk
 kb:∀k,kv.ownBlock=some k->k<W4.heap.size
 lt:sb<W4.heap.size
 lo1:w.heap.size+3<=lo
 lo2:lo<=sb
 sz:W4.heap.size<=W.heap.size
 rb:∀k,bv.ownBlock=some k->k<W4.heap.size
 keep:∀k:Nat,W4.heap[k]? = some (.deferred (some []))->W.heap[k]? = some (.deferred (some []))
theorem Kt.upd{w W4 W W':World}{lo sb i:Nat}{kv bv:Value}{out:List UInt8}{L bk:List ByteArray}{D:Nat->Prop}(h:Kt w W4 lo sb kv bv out L bk i D W)(hu:It.bL (λk=>k=W4.heap.size+1) W W'):Kt w W4 lo sb kv bv out L bk i D W':=by
 obtain⟨u,q,h1,h2⟩:=h.q
 have:=h.lt
 have:=h.lo1
 have:=h.lo2
 have:=h.sz
 refine⟨⟨u,q.keep hu (λk e=>⟨by omega,by omega,by omega,λg=>by have:=h1 k g;omega,λg=>by have:=h.rb k g;omega⟩),h1,h2⟩,(hu.block _ (by omega) (by omega)).trans h.box,bD h.kr (λk e=>hu.block k (by have:=h.kb k e;omega) (by have:=h.kb k e;omega)),h.kb,h.lt,h.lo1,h.lo2,bY h.sz hu.size,h.rb,λk hk=>(hu.block k ?_ ?_).trans (h.keep k hk)⟩
 ·exact(aY.1 (h.keep k hk)).1
 ·have:=(aY.1 hk).1;omega
theorem Dy(bk:List ByteArray)(i:Nat)(hi:i<bk.length):bk.reverse.take (i+1)=bk.reverse.take i++[bk.getD (bk.length-1-i) ⟨#[]⟩]:=by
 rw[List.take_succ_eq_append_getElem (by simpa using hi),List.getElem_reverse,List.getD_eq_getElem?_getD,List.getElem?_eq_getElem (by omega)]
 rfl
theorem Marks.lt'{B:Nat}{w:World}:∀ds,Marks B w ds->∀d ∈ ds,∃r,d={ target:=.collected r,args:=#[] }/\r<w.heap.size
 | [],_,d,hd=>by cases hd
 | d0::ds,⟨⟨r,h1,h2,h3,h4⟩,h5⟩,d,hd=>by
  rcases List.mem_cons.1 hd with rfl|hd
  ·exact⟨r,h1,(aY.1 h3).1⟩
  ·exact Marks.lt' ds h5 d hd
theorem zx(w:World)(v:Value)(L:List (Nd × Nat))(tk:Nd × Nat->List ByteArray)(res:List UInt8)(fuel:Nat)(hN:NR w v L)(G9:∀k,v.ownBlock=some k->k<w.heap.size)(htk:∀p ∈ L,∀w',Below w.heap.size w w'->TK 61 #[nv p] (tk p) w')(hpr:O4 tk L fuel [tK] 0 []=some res) :
  Calls prog 35 #[v] w λe w'=>e=.returned (.string ⟨res.toArray⟩)/\Below w.heap.size w w':=by
 obtain⟨gl,lc,rfl,hL,hcell⟩:=id hN
 clear hcell
 have q0:=LQ w
 refine(callsIn_wide (n:=9)).1 ?_
 refine callsIn_of_wp_marks func35 rfl trivial ?_ rfl
 refine wpIn_wide.2 ?_
 simp only[ntmps35,List.size_toArray,List.length_cons,dI,Nat.reduceAdd,Nat.reduceSub,Array.replicate_succ,Array.replicate_zero,List.push_toArray,List.append_toArray,List.nil_append,List.cons_append]
 go_upto_region 4 with fail
 generalize World.alloc (World.alloc (World.alloc w _) _) _=W0 at *
 have HN:=hid hN
 have Pp:=hid G9
 have HTK:=hid htk
 clear hN G9 htk
 refine wp_loop (λa' w'=>(a'.tmps.size=49/\a'.tmps.getD 0 undef=.slice (some ⟨gl,0,none⟩) L.length lc/\a'.tmps.getD 3 undef=.pointer (some ⟨w.heap.size,0,none⟩)/\a'.tmps.getD 5 undef=.pointer (some ⟨w.heap.size+2,0,none⟩))/\Marks w.heap.size w' a'.defers/\∃ (u bv:Value) (ls:List ByteArray) (out:List UInt8) (f n:Nat),a'.tmps.getD 4 undef=.int .i64 (n:Nat)/\n<=L.length/\Pq w w' u bv ls out/\ls.length<=2000000/\out.length<=1000000000/\O4 tk L f ls.reverse n out=some res) (λa' w'=>(L.length-(intOf (a'.tmps.getD 4 undef)).toNat)*2000001+MB (w'.cell? ⟨w.heap.size+2,0,none⟩)) ?_ ?_
 ·exact⟨⟨rfl,rfl,rfl,rfl⟩,trivial,_,_,[tK],[],fuel,0,rfl,Nat.zero_le _,q0,by simp,by simp,hpr⟩
 clear q0 hpr
 rintro⟨t,ds⟩ wr ⟨⟨hs,h0,h3,h5⟩,hM,u,bv,ls,out,f,n,h4,hnL,q,hll,hol,hpr⟩
 simp only at hs h0 h3 h5 h4 hM ⊢
 obtain⟨uu,rfl⟩:=O8 t hs h0 h3 h4 h5
 clear hs h0 h3 h5 h4
 unfold VI
 obtain⟨o,c,rfl⟩:=aI q.row
 have co:wr.cell? ⟨w.heap.size+2,0,none⟩=some (.slice o ls.length c):=aA q.box 0
 have zo:=aC q.box 0
 cases f with
 | zero=>cases hpr
 | succ f=>
 rcases List.eq_nil_or_concat ls with rfl|⟨L1,x,hls⟩
 ·have HM:=hid hM
  have HQ:=hid q
  simp only[List.reverse_nil,O4,Option.some.injEq] at hpr
  simp only[dI] at co
  have cl:=QN w.heap.size out wr q.bd
  have zz:=q.sz
  cases out with
  | nil=>
   have cs:=QD w.heap.size [] wr q.bd (by omega)
   rw[if_pos rfl] at hpr
   subst hpr
   simp only[dI] at cl
   clear hM q
   go_wp2_with (first|(go_at_call 62;(with_reducible refine cl.mono ?_);rintro e w2 ⟨rfl,hw⟩;(have hw':=hw.symm);subst hw';clear hw)|(go_at_call 65;(with_reducible refine cs.mono ?_);rintro e w9 ⟨rfl,Vq,Vp⟩;(have XM:=hid Vq);(have UH:=hid Vp);clear Vq Vp cs))
   have Nk:Marks w.heap.size w9 ds:=Marks.kept (λk hk e=>by
    rw[e]
    refine UH.out k e ?_
    rintro rfl
    obtain⟨c,t,hc⟩:=HQ.out.blk
    rw[hc] at e;cases e) ds HM.out
   refine l9 ds w9 Nk (λw' hu=>?_)
   refine⟨.string ⟨#[]⟩,by simp[results,results35,go_sem],rfl,?_⟩
   exact(HQ.out.bf.trans XM.out).trans (hu.below (by have:=(HQ.out.bf.trans XM.out).size;omega) (λk e=>e.1))
  | cons y out=>
   obtain⟨O,hO⟩:∃O,y::out=O:=⟨_,rfl⟩
   have hne:¬O=[]:=by rw[<- hO];simp
   have hp:0<O.length:=by rw[<- hO];simp
   rw[hO] at q HQ hpr cl hol
   rw[if_neg hne] at hpr
   subst hpr
   clear hO hne
   have j1:((O.length:Nat):Int)>0:=by omega
   have cw:Calls prog 63 #[.pointer (some ⟨w.heap.size,0,none⟩),.int .u8 10] wr λe w'=>e=.returned .nilIface/\(Bd w.heap.size w.heap.size (O++[10]) w'/\Np w.heap.size wr w'/\Below w.heap.size wr w'):=F8 w.heap.size w.heap.size O 10 wr q.bd (by omega) (by omega)
   have hx:∀w5,(Bd w.heap.size w.heap.size (O++[10]) w5/\Np w.heap.size wr w5/\Below w.heap.size wr w5)->Marks w.heap.size w5 ds/\∃P8,Pq w w5 (.slice o 0 c) P8 [] (O++[10]):=by
    rintro w5 ⟨g1,g2,g3⟩
    exact⟨vO HM.out g2 HQ.out.blk,HQ.out.wrote g1 g2 g3⟩
   have HX:=hid hx
   clear hM q hx
   go_wp2_with (first|(go_at_call 62;(with_reducible refine cl.mono ?_);rintro e w2 ⟨rfl,hw⟩;(have hw':=hw.symm);subst hw';clear hw)|(go_at_call 63;(with_reducible refine cw.mono ?_);rintro e w5 ⟨rfl,QS⟩;(obtain⟨m5,P8,q5⟩:=HX.out w5 QS);(have Jk:=hid m5);(have Nf:=hid q5);(have cs:=QD w.heap.size (O++[10]) w5 q5.bd (by have:=q5.sz;omega));clear QS m5 q5 cw cl)|(go_at_call 65;(with_reducible refine cs.mono ?_);rintro e w9 ⟨rfl,Vq,Vp⟩;(have XM:=hid Vq);(have UH:=hid Vp);clear Vq Vp cs))
   have Nk:Marks w.heap.size w9 ds:=Marks.kept (λk hk e=>by
    rw[e]
    refine UH.out k e ?_
    rintro rfl
    obtain⟨c,t,hc⟩:=Nf.out.blk
    rw[hc] at e;cases e) ds Jk.out
   refine l9 ds w9 Nk (λw' hu=>?_)
   refine⟨.string ⟨(O++[10]).toArray⟩,by simp[results,results35,go_sem],rfl,?_⟩
   exact(Nf.out.bf.trans XM.out).trans (hu.below (by have:=(Nf.out.bf.trans XM.out).size;omega) (λk e=>e.1))
 ·rw[List.concat_eq_append] at hls
  subst hls
  obtain⟨g,cc,eo,hcc,hlast⟩:=GJ q.row (i:=L1.length) (by simp)
  simp only[Value.slice.injEq,true_and] at eo
  obtain⟨rfl,rfl⟩:=eo
  have MP:(L1++[x]).length=L1.length+1:=by simp
  rw[show (L1++[x]).getD L1.length ⟨#[]⟩=x by simp] at hlast
  rw[MP] at co hcc hll q
  have q5:=q.set (Rp q.row)
  have z:=q.sz
  have o1:IntKind.i64.wrap (((L1.length+1:Nat):Int)-1)=L1.length:=by rw[IntKind.wrap_i64];omega
  have o2:(0:Int)<=L1.length:=by omega
  have o3:(L1.length:Int)<((L1.length+1:Nat):Int):=by omega
  have o4:((L1.length+1:Nat):Int)>0:=by omega
  have xY:Hid (Marks w.heap.size (wr.setCell ⟨w.heap.size+2,0,none⟩ (.slice (some ⟨g,0,none⟩) L1.length c)) ds):=by
   refine Marks.kept ?_ ds hM
   intro k _ hk
   refine ay _ _ _ _ ?_
   rintro rfl
   rw[q.box] at hk;cases hk
  have hms:MB (wr.cell? ⟨w.heap.size+2,0,none⟩)=L1.length+1:=by rw[co];rfl
  rw[hms]
  simp only[List.reverse_append,List.reverse_cons,List.reverse_nil,List.nil_append,List.cons_append] at hpr
  unfold O4 at hpr
  have Nf:=hid q5
  have HP:=hid hpr
  clear q q5 hM hpr
  cases hx:(x.toList==[])
  ·have hp2:=HP.out
   rw[if_neg (by simp[hx])] at hp2
   split at hp2
   case isFalse=>cases hp2
   rename_i hbd
   go_upto_region 12 with fail
   clear co zo hlast hcc HP
   generalize wr.setCell _ _=W1 at *
   have q5:=Nf.out
   have cl:=QN w.heap.size out W1 q5.bd
   have z5:=q5.sz
   have hxs:x.data.toList.length=x.size:=by simp
   by_cases hout:out=[]
   ·subst hout
    rw[if_pos rfl] at hp2
    simp only[dI] at cl
    have cs:=Jt w.heap.size w.heap.size [] x W1 q5.bd (by simp at hbd ⊢;omega) (by omega)
    have hx:∀w5,(Bd w.heap.size w.heap.size ([]++x.data.toList) w5/\Np w.heap.size W1 w5/\Below w.heap.size W1 w5)->Marks w.heap.size w5 ds/\∃P8,Pq w w5 (.slice (some ⟨g,0,none⟩) L1.length c) P8 L1 ([]++x.data.toList):=by
     rintro w5 ⟨g1,g2,g3⟩
     exact⟨vO xY.out g2 Nf.out.blk,Nf.out.wrote g1 g2 g3⟩
    have HX:=hid hx
    have qU:=hid hp2
    clear hx q5 hp2
    go_wp2_with (first|(go_at_call 62;(with_reducible refine cl.mono ?_);rintro e w2 ⟨rfl,hw⟩;(have hw':=hw.symm);subst hw';clear hw)|(go_at_call 64;(with_reducible refine cs.mono ?_);rintro e w5 ⟨rfl,QS⟩;(obtain⟨m5,P8,q5⟩:=HX.out w5 QS);(have Jk:=hid m5);(have XG:=hid q5);clear QS m5 q5 cs cl))
    have aAU:MB (w5.cell? ⟨w.heap.size+2,0,none⟩)=L1.length:=by rw[aA XG.out.box 0];rfl
    refine⟨⟨⟨rfl,rfl,rfl,rfl⟩,Jk.out,_,P8,L1,_,f,n,rfl,hnL,XG.out,by omega,by simp at hbd ⊢;omega,qU.out⟩,?_⟩
    rw[aAU]
    exact Nat.lt_succ_self _
   ·rw[if_neg hout] at hp2
    have j1:((out.length:Nat):Int)>0:=by
     have:0<out.length:=List.length_pos_iff.2 hout
     omega
    have cw:Calls prog 63 #[.pointer (some ⟨w.heap.size,0,none⟩),.int .u8 32] W1 λe w'=>e=.returned .nilIface/\(Bd w.heap.size w.heap.size (out++[32]) w'/\Np w.heap.size W1 w'/\Below w.heap.size W1 w'):=F8 w.heap.size w.heap.size out 32 W1 q5.bd (by omega) (by omega)
    have hx:∀w5,(Bd w.heap.size w.heap.size (out++[32]) w5/\Np w.heap.size W1 w5/\Below w.heap.size W1 w5)->Marks w.heap.size w5 ds/\∃P8,Pq w w5 (.slice (some ⟨g,0,none⟩) L1.length c) P8 L1 (out++[32]):=by
     rintro w5 ⟨g1,g2,g3⟩
     exact⟨vO xY.out g2 Nf.out.blk,Nf.out.wrote g1 g2 g3⟩
    have HX:=hid hx
    have qU:=hid hp2
    have HBD:Hid ((out++[32]).length+x.size<=140737488355328):=hid (by simp;omega)
    clear hx q5 hp2
    go_wp2_with (first|(go_at_call 62;(with_reducible refine cl.mono ?_);rintro e w2 ⟨rfl,hw⟩;(have hw':=hw.symm);subst hw';clear hw)|(go_at_call 63;(with_reducible refine cw.mono ?_);rintro e w5 ⟨rfl,QS⟩;(obtain⟨m5,P8,q5⟩:=HX.out w5 QS);(have Jk:=hid m5);(have XG:=hid q5);(have cs:=Jt w.heap.size w.heap.size (out++[32]) x w5 q5.bd HBD.out (by have:=q5.sz;omega));clear QS m5 q5 cw cl)|(go_at_call 64;(with_reducible refine cs.mono ?_);rintro e w6 ⟨rfl,hw6⟩;(have HW6:=hid hw6);clear hw6 cs))
    obtain⟨g1,g2,g3⟩:=HW6.out
    have m6:=vO Jk.out g2 XG.out.blk
    obtain⟨bv6,q6⟩:=XG.out.wrote g1 g2 g3
    have aAT:MB (w6.cell? ⟨w.heap.size+2,0,none⟩)=L1.length:=by rw[aA q6.box 0];rfl
    refine⟨⟨⟨rfl,rfl,rfl,rfl⟩,m6,_,bv6,L1,_,f,n,rfl,hnL,q6,by omega,by simp;omega,qU.out⟩,?_⟩
    rw[aAT]
    exact Nat.lt_succ_self _
  ·have hp2:=HP.out
   rw[if_pos (by simp[hx])] at hp2
   split at hp2
   case h_2=>cases hp2
   rename_i p hp
   split at hp2
   case isFalse=>cases hp2
   rename_i hbk
   have hnl:=(lH.1 hp).1
   go_upto_region 8 with fail
   clear co zo hlast hcc HP
   generalize wr.setCell _ _=W1 at *
   have q5:=Nf.out
   have n5:=HN.out.below q5.bf Pp.out
   obtain⟨c0,c1,c2,c3,c4,c5⟩:=og n5 n p hp
   have ct:=HTK.out p (List.mem_of_getElem? hp) W1 q5.bf
   generalize hbe:tk p=bk at *
   have cb:=Pf
   have j6:(0:Int)<=n:=by omega
   have j7:(n:Int)<L.length:=by omega
   have j8:IntKind.i64.wrap ((n:Int)+1)=((n+1:Nat):Int):=by rw[IntKind.wrap_i64];omega
   unfold TK nv dJ at ct
   clear n5
   go_wp2_with (first|(go_at_call 61;(with_reducible refine ct.mono ?_);rintro e W2 ⟨kv,rfl,hB2,hO2⟩;(obtain⟨ko,kc,rfl⟩:=aI hO2);clear ct)|(go_at_call 60;(with_reducible refine(cb _ _ _ _).mono ?_);rintro e w8 ⟨rfl,hw8⟩;(have hw':=hw8.symm);subst hw';clear hw8))
   have bX:Below W2.heap.size W2 (W2.alloc (.cells #[.slice ko bk.length kc] 86)):=(Below.refl _ W2).alloc (dQ _) _
   have hbx:=eU W2 (.cells #[.slice ko bk.length kc] 86)
   have hB4:=hB2.trans (bX.mono hB2.size)
   have q9:=q5.below hB4
   have o9:=hO2.below bX
   have kb9:∀k,(Value.slice ko bk.length kc).ownBlock=some k->k<W2.heap.size:=λk e=>(hO2.lt k e).2
   have ub9:∀k,(Value.slice (some ⟨g,0,none⟩) L1.length c).ownBlock=some k->k<W1.heap.size:=λk e=>(q5.ub e).2.1
   have rb9:∀k,bv.ownBlock=some k->k<W1.heap.size:=λk e=>(q5.rb e).2.1
   have Jk:Hid (Marks w.heap.size (W2.alloc (.cells #[.slice ko bk.length kc] 86)) ds):=Marks.kept (λk _ hk=>hB4.block k (aY.1 hk).1) ds xY.out
   have hz8:=q5.sz
   have hz9:=hB2.size
   have sz4:(W2.alloc (.cells #[.slice ko bk.length kc] 86)).heap.size=W2.heap.size+1:=by simp
   clear bX xY hB2 hO2 hB4 Nf q5 c0 c1 c2 c3 c4 c5
   generalize hsb:W2.heap.size=sb at *
   generalize W2.alloc _=W4 at *
   generalize W1.heap.size=lo at *
   clear hsb
   have k0:Kt w W4 lo sb (.slice ko bk.length kc) bv out L1 bk 0 (λk=>k=w.heap.size+2\/(Value.slice (some ⟨g,0,none⟩) L1.length c).ownBlock=some k) W4:=
    ⟨⟨_,by simpa using q9,λk e=>.inl (ub9 k e),λk=>Iff.rfl⟩,hbx,o9,λk e=>by have:=kb9 k e;omega,by omega,hz8,hz9,dQ _,λk e=>by have:=rb9 k e;omega,λk hk=>hk⟩
   have hbl:bk.length<=2000000:=by omega
   have Xe:=hid k0
   have qU:=hid hp2
   clear q9 hbx k0 o9 hp2 kb9 ub9 rb9
   refine zH (FV sb lo (.slice ko bk.length kc) bk hbl) Mi rfl (Kt w W4 lo sb (.slice ko bk.length kc) bv out L1 bk) (λ_ _=>False) ?hL ?hI ?hIx _ Xe.out ?A ?hsz ?assign ?body ?done ?stop
   case assign=>
    intro L' i hi W K hK
    rw[xQ]
    simp only[vB,List.setIfInBounds_toArray,List.set_cons_succ,List.set_cons_zero]
    gi_wp2_with (simp only[Oper.semAt];go_simp)
    exact hK
   case hL=>
    intro i D W h
    obtain⟨u,q,h1,h2⟩:=h.q
    refine⟨⟨aA h.box 0,h.kr⟩,λk hk=>?_⟩
    rcases(h2 k).1 hk with rfl|e
    ·have:=q.sz;omega
    ·exact(q.ub e).2.1
   case hI=>intro i D W W' h hu;exact h.upd hu
   case hIx=>intro c W W' h;exact h.elim
   case hsz=>intro i hi;rw[xQ];rfl
   case stop=>intro c W h;exact h.elim
   case done=>
    intro D W h hD
    rw[qF] at h
    obtain⟨u,q,h1,h2⟩:=h.q
    have Nk:Marks w.heap.size W ({ target:=.collected W4.heap.size,args:=#[] }::ds):=by
     refine⟨⟨_,rfl,by omega,hD,?_⟩,Marks.kept (λk _ hk=>(h.keep k hk).trans hk.symm) ds Jk.out⟩
     intro d hd e
     obtain⟨r,h1,h2⟩:=Marks.lt' ds Jk.out d hd
     rw[h1] at e
     injection e with e1 _
     injection e1 with e1
     omega
    have er:L1++bk.reverse.take bk.length=L1++bk.reverse:=by rw[List.take_of_length_le (by simp)]
    rw[er] at q
    have Ov:O4 tk L f (L1++bk.reverse).reverse (n+1) out=some res:=by
     rw[List.reverse_append,List.reverse_reverse]
     exact qU.out
    have XT:(L1++bk.reverse).length<=2000000:=by simp at hbk ⊢;omega
    have Oy:MB (W.cell? ⟨w.heap.size+2,0,none⟩)=(L1++bk.reverse).length:=by
     obtain⟨uo,uc,rfl⟩:=aI q.row
     rw[aA q.box 0];rfl
    have H9:=hid (And.intro Nk (And.intro q (And.intro Ov (And.intro XT Oy))))
    clear Nk q Ov XT Oy er h1 h2 h Xe qU hD
    go_wp2
    obtain⟨Nk,q,Ov,XT,Oy⟩:=H9.out
    refine⟨⟨⟨rfl,rfl,rfl,rfl⟩,Nk,u,bv,_,out,f,n+1,rfl,by omega,q,XT,hol,Ov⟩,?_⟩
    rw[Oy]
    show (L.length-((n+1:Nat):Int).toNat)*2000001+(L1++bk.reverse).length<(L.length-(n:Int).toNat)*2000001+(L1.length+1)
    have e1:((n+1:Nat):Int).toNat=n+1:=by omega
    have e2:((n:Nat):Int).toNat=n:=by omega
    rw[e1,e2]
    omega
   case body=>
    intro L' i hi D W FE h hs hlp
    subst FE
    rw[qF] at hi
    obtain⟨u,q,h1,h2⟩:=h.q
    obtain⟨uo,uc,rfl⟩:=aI q.row
    generalize hx:bk.getD (bk.length-1-i) ⟨#[]⟩=y at *
    have MP:(L1++bk.reverse.take i).length<=4000000:=by
     simp
     omega
    obtain⟨v2,w2,hrun,ho2,hg,hk⟩:=FY W 86 _ _ _ q.row (by have:=q.sz;omega) y MP
    have hU:It.bL (λk=>(Value.slice uo (L1++bk.reverse.take i).length uc).ownBlock=some k) W w2:=((It.bL.refl _ W).alloc _).trans' ((It.bL.refl _ _).grown hg (λk e=>.inl e))
    have bx:w2.heap[w.heap.size+2]? = some (.cells #[.slice uo (L1++bk.reverse.take i).length uc] 86 (0,0)):=(hU.block _ (by have:=q.sz;omega) (λe=>(q.ub e).2.2.1 rfl)).trans q.box
    have ho3:OS w2 w.heap.size v2 ((L1++bk.reverse.take i)++[y]):=by
     unfold OS
     rw[dR,List.map_append]
     exact ho2
    have fin:Hid (vE (W4.heap.size+1) W4.heap.size D W (λW'=>∃D',Kt w W4 lo sb (.slice ko bk.length kc) bv out L1 bk (i+1) D' W') (λ_ _=>False) .normal { tmps:=#[],defers:=[] } (w2.setCell ⟨w.heap.size+2,0,none⟩ v2)):=by
     have q2:=q.push ho3 hg
     have lo1:=h.lo1
     have lo2:=h.lo2
     have lt:=h.lt
     have szh:=h.sz
     have mE:It.bL (λk=>k=w.heap.size+2\/(Value.slice uo (L1++bk.reverse.take i).length uc).ownBlock=some k) W (w2.setCell ⟨w.heap.size+2,0,none⟩ v2):=(hU.mono (λk e=>.inr e)).setCell (p:=⟨w.heap.size+2,0,none⟩) (.inl (.inl rfl)) _
     have ne:∀k,(k=W4.heap.size\/k=W4.heap.size+1\/(lo<=k/\k<W4.heap.size))->¬ (k=w.heap.size+2\/(Value.slice uo (L1++bk.reverse.take i).length uc).ownBlock=some k):=by
      rintro k hk (e|e)
      ·omega
      ·rcases h1 _ e with g|g <;> omega
     refine⟨⟨mE.block _ (by omega) (ne _ (by omega)),mE.block _ (by omega) (ne _ (by omega))⟩,λk hk1 hk2=>mE.block k hk1 (λe=>hk2 ((h2 k).2 e)),(λk=>k=w.heap.size+2\/v2.ownBlock=some k),?_⟩
     refine⟨⟨v2,?_,?_,λk=>Iff.rfl⟩,(mE.block _ (by omega) (ne _ (by omega))).trans h.box,bD h.kr (λk e=>mE.block k (by have:=h.kb k e;omega) (ne k (.inr (.inr ⟨(h.kr.lt k e).1,h.kb k e⟩)))),h.kb,h.lt,h.lo1,h.lo2,bY h.sz mE.size,h.rb,λk hk=>(mE.block k (aY.1 (h.keep k hk)).1 ?_).trans (h.keep k hk)⟩
     ·rw[Dy bk i hi,hx,<- List.append_assoc]
      exact q2
     ·intro k e
      rcases hk with e2|e2
      ·rw[e2] at e;exact h1 k e
      ·rw[e2] at e
       have:=Option.some.inj e
       rw[gI] at this
       omega
     ·rintro(e|e)
      ·have:=h.keep k hk
       rw[e,q.box] at this;cases this
      ·obtain⟨cur,hc⟩:=fQ q.row e
       rw[h.keep k hk] at hc;cases hc
    have co:W.cell? ⟨w.heap.size+2,0,none⟩=some (.slice uo (L1++bk.reverse.take i).length uc):=aA q.box 0
    have c2:w2.cell? ⟨w.heap.size+2,0,none⟩=some (.slice uo (L1++bk.reverse.take i).length uc):=aA bx 0
    have z2:=aC bx 0
    obtain⟨vo2,vc2,rfl⟩:=aI ho2
    generalize (L1++bk.reverse.take i).length=nl at *
    clear q ho2 ho3 hg hk hU bx h1 h2 h
    gi_wp2_with (first|(with_reducible refine tu _ (.tmp 34) (.tmp 36) 86 86 rfl _ _ (by simp[Act.eval]) (by simp[Act.eval]) _ _ hrun ?_)|(simp only[Oper.semAt];go_simp))
    exact fin.out
def dY(n:Nat):UInt8:=if n<10 then (48+n).toUInt8 else (87+n).toUInt8
def aA1(b:UInt8):List UInt8:=if b=34\/b=92 then [92,b] else if b=10 then [92,110] else if b<32\/126<b then [92,120,dY (b.toNat/16),dY (b.toNat%16)] else [b]
def Rf(s:ByteArray):ByteArray:=⟨([34]++s.data.toList.flatMap aA1++[34]).toArray⟩
def Ue(fl:Int->ByteArray)(p:Nd × Nat):List ByteArray:=Zt p.1.kind p.2 p.1.text (if p.1.kind=27 then fl p.1.bits else if p.1.kind=28 then Rf p.1.text else ⟨(Ev p.1.int).toArray⟩)
theorem U9(fl:Int->ByteArray)(p:Nd × Nat)(hk:1<=p.1.kind/\p.1.kind<=31)(h27:p.1.kind=27->∀w,Tabs w->TK 93 #[nv p] [fl p.1.bits] w)(UZ:p.1.kind=28->∀w,Tabs w->TK 93 #[nv p] [Rf p.1.text] w)(hc:p.2<=1000000)(hl:(l8 p.1.kind).least<=(p.2:Nat))(hi:-9223372036854775808<=p.1.int/\p.1.int<=9223372036854775807)(w:World)(ht:Tabs w):TK 61 #[nv p] (Ue fl p) w:=by
 obtain⟨⟨k,a,t,i,b⟩,c⟩:=p
 simp only at hk hc hl hi h27 UZ
 unfold nv Ue at *
 simp only at h27 UZ ⊢
 have hT:∀ {w'},Below w.heap.size w w'->Tabs w':=λhB=>ht.below hB
 have:k=1\/k=2\/k=3\/k=4\/k=5\/k=6\/k=7\/k=8\/k=9\/k=10\/k=11\/k=12\/k=13\/k=14\/k=15\/k=16\/k=17\/k=18\/k=19\/k=20\/k=21\/k=22\/k=23\/k=24\/k=25\/k=26\/k=27\/k=28\/k=29\/k=30\/k=31:=by omega
 rcases this with rfl|rfl|rfl|rfl|rfl|rfl|rfl|rfl|rfl|rfl|rfl|rfl|rfl|rfl|rfl|rfl|rfl|rfl|rfl|rfl|rfl|rfl|rfl|rfl|rfl|rfl|rfl|rfl|rfl|rfl|rfl
 ·exact Zy a c t i b w hc
 ·exact Zx a c t i b w
 ·exact Zw a c t i b w hc (by have:(1:Int)<=(c:Nat):=hl;omega)
 ·exact Zv a c t i b w
 ·exact Zu a c t i b w hc
 ·exact oL 6 a c t i b _ w ⟨by decide,by decide,by decide,by decide,by decide,by decide,by decide⟩ rfl (λw' _=>aAD a c t i b w')
 ·exact oL 7 a c t i b _ w ⟨by decide,by decide,by decide,by decide,by decide,by decide,by decide⟩ rfl (λw' _=>aAC a c t i b w')
 ·exact oL 8 a c t i b _ w ⟨by decide,by decide,by decide,by decide,by decide,by decide,by decide⟩ rfl (λw' _=>aAB a c t i b w')
 ·exact oL 9 a c t i b _ w ⟨by decide,by decide,by decide,by decide,by decide,by decide,by decide⟩ rfl (λw' _=>aAA a c t i b w')
 ·exact oL 10 a c t i b _ w ⟨by decide,by decide,by decide,by decide,by decide,by decide,by decide⟩ rfl (λw' _=>Uq a c t i b w')
 ·exact oL 11 a c t i b _ w ⟨by decide,by decide,by decide,by decide,by decide,by decide,by decide⟩ rfl (λw' _=>Uo a c t i b w' hc (by have:(3:Int)<=(c:Nat):=hl;omega))
 ·exact Uc a c t i b w
 ·exact oL 13 a c t i b _ w ⟨by decide,by decide,by decide,by decide,by decide,by decide,by decide⟩ rfl (λw' _=>Un a c t i b w')
 ·exact oL 14 a c t i b _ w ⟨by decide,by decide,by decide,by decide,by decide,by decide,by decide⟩ rfl (λw' _=>Um a c t i b w')
 ·exact oL 15 a c t i b _ w ⟨by decide,by decide,by decide,by decide,by decide,by decide,by decide⟩ rfl (λw' _=>Ul a c t i b w' hc)
 ·exact oL 16 a c t i b _ w ⟨by decide,by decide,by decide,by decide,by decide,by decide,by decide⟩ rfl (λw' _=>Uk a c t i b w')
 ·exact oL 17 a c t i b _ w ⟨by decide,by decide,by decide,by decide,by decide,by decide,by decide⟩ rfl (λw' _=>Uj a c t i b w')
 ·exact mV 18 a c t i b _ w ⟨by decide,by decide,by decide,by decide,by decide,by decide,by decide⟩ rfl (λw' _=>WO a c t i b w')
 ·exact mV 19 a c t i b _ w ⟨by decide,by decide,by decide,by decide,by decide,by decide,by decide⟩ rfl (λw' _=>WM a c t i b w')
 ·exact mV 20 a c t i b _ w ⟨by decide,by decide,by decide,by decide,by decide,by decide,by decide⟩ rfl (λw' _=>WL a c t i b w')
 ·exact mV 21 a c t i b _ w ⟨by decide,by decide,by decide,by decide,by decide,by decide,by decide⟩ rfl (λw' _=>WK a c t i b w')
 ·exact mV 22 a c t i b _ w ⟨by decide,by decide,by decide,by decide,by decide,by decide,by decide⟩ rfl (λw' _=>WJ a c t i b w')
 ·exact mV 23 a c t i b _ w ⟨by decide,by decide,by decide,by decide,by decide,by decide,by decide⟩ rfl (λw' _=>WI a c t i b w' hc)
 ·exact mV 24 a c t i b _ w ⟨by decide,by decide,by decide,by decide,by decide,by decide,by decide⟩ rfl (λw' _=>WH a c t i b w')
 ·exact Ub a c t i b w
 ·exact mV 26 a c t i b _ w ⟨by decide,by decide,by decide,by decide,by decide,by decide,by decide⟩ rfl (λw' hB=>WG a c t i b w' hi.1 hi.2 (hT hB))
 ·exact mV 27 a c t i b _ w ⟨by decide,by decide,by decide,by decide,by decide,by decide,by decide⟩ rfl (λw' hB=>h27 rfl w' (hT hB))
 ·exact mV 28 a c t i b _ w ⟨by decide,by decide,by decide,by decide,by decide,by decide,by decide⟩ rfl (λw' hB=>UZ rfl w' (hT hB))
 ·exact mV 29 a c t i b _ w ⟨by decide,by decide,by decide,by decide,by decide,by decide,by decide⟩ rfl (λw' _=>WE a c t i b w')
 ·exact mV 30 a c t i b _ w ⟨by decide,by decide,by decide,by decide,by decide,by decide,by decide⟩ rfl (λw' _=>WC a c t i b w')
 ·exact mV 31 a c t i b _ w ⟨by decide,by decide,by decide,by decide,by decide,by decide,by decide⟩ rfl (λw' _=>WB a c t i b w')
theorem zI(L:List (Nd × Nat)):∀ (r n:Nat) (Q:List (Nat × Nat)),isGo L r n Q=true->n+r=L.length->∀j,n<=j->j<L.length->fitsAt L j=true
 | 0,n,Q,h,e,j,h1,h2=>by omega
 | r+1,n,Q,h,e,j,h1,h2=>by
  unfold isGo at h
  split at h
  ·cases h
  ·simp only[gy] at h
   obtain⟨⟨h3,h4⟩,h5⟩:=h
   rcases Nat.lt_or_ge n j with hj|hj
   ·exact zI L r (n+1) _ h5 (by omega) j hj h2
   ·rw[show j=n by omega];exact h3
theorem MF(L:List (Nd × Nat))(h:lX L=true):∀p ∈ L,zM p=true:=by
 intro p hp
 cases L with
 | nil=>cases hp
 | cons q L=>
  simp only[lX,gy] at h
  obtain⟨⟨h1,h2⟩,h3⟩:=h
  obtain⟨j,hj⟩:=List.getElem?_of_mem hp
  cases j with
  | zero=>simp at hj;subst hj;exact h2
  | succ j=>
   have:=zI (q::L) L.length 1 _ h3 (by simp;omega) (j+1) (by omega) (lH.1 hj).1
   unfold fitsAt at this
   rw[hj] at this
   exact this
structure XE (p:Nd × Nat):Prop where
 kind:1<=p.1.kind/\p.1.kind<=31
 size:p.1.text.size<=1000000
 kids:p.2<=1000000
 int:-9223372036854775808<=p.1.int/\p.1.int<=9223372036854775807
theorem ET(fl:Int->ByteArray)(w:World)(v:Value)(L:List (Nd × Nat))(hN:NR w v L)(G9:∀k,v.ownBlock=some k->k<w.heap.size)(hT:lX L=true)(hok:∀p ∈ L,XE p)(h27:∀p ∈ L,p.1.kind=27->∀w,Tabs w->TK 93 #[nv p] [fl p.1.bits] w)(UZ:∀p ∈ L,p.1.kind=28->∀w,Tabs w->TK 93 #[nv p] [Rf p.1.text] w)(fuel:Nat)(res:List UInt8)(hpr:O4 (Ue fl) L fuel [tK] 0 []=some res)(ht:Tabs w)(hm:MarksIn w) :
  Calls prog 22 #[v] w λe w'=>e=.returned (.tuple #[.string ⟨res.toArray⟩,.int .i64 0])/\Below w.heap.size w w':=by
 have ci:=ME w v L hN G9 hT (λp hp=>⟨(hok p hp).size,(hok p hp).kids⟩) ht hm
 have hfit:=MF L hT
 have cp:∀w',Below w.heap.size w w'->Calls prog 35 #[v] w' λe w''=>e=.returned (.string ⟨res.toArray⟩)/\Below w'.heap.size w' w'':=by
  intro w1 hB
  refine zx w1 v L (Ue fl) res fuel (hN.below hB G9) (λk e=>Nat.lt_of_lt_of_le (G9 k e) hB.size) ?_ hpr
  intro p hp w2 hB2
  have hB3:=hB.trans (hB2.mono hB.size)
  refine U9 fl p (hok p hp).kind (h27 p hp) (UZ p hp) (hok p hp).kids ?_ (hok p hp).int w2 (ht.below hB3)
  have:=hfit p hp
  simp only[zM,gy,decide_eq_true_eq] at this
  exact this.1.1.1
 clear hT hok h27 UZ hpr ht hm hfit
 obtain⟨gl,lc,rfl,hL,-⟩:=hN
 clear G9
 generalize (⟨res.toArray⟩:ByteArray)=rs at *
 go_enter func22,ntmps22
 go_wp2_with (first|(go_at_call 34;(with_reducible refine ci.mono ?_);rintro e w2 ⟨rfl,hB⟩;(have HB:=hid hB);clear hB ci)|(go_at_call 35;(with_reducible refine(cp _ HB.out).mono ?_);rintro e w3 ⟨rfl,hB3⟩;(have HB3:=hid (HB.out.trans (hB3.mono HB.out.size)));clear hB3 cp))
 go_ret2
 exact⟨rfl,HB3.out⟩
end Go.Proofs.YtgchnkgolclmgaaGreatDoor.W.Tr

import Derived.Test.YtkjaoandifednaaGreatDoorJG
import Derived.Test.YtkjaoandifednaaGreatDoorShelfP
import Derived.Lib.Builder
import Derived.Lib.AppendStr
import Derived.Lib.UnsafeStr
import Derived.Laws.Externs
import Derived.Test.YtkjaoandifednaaGreatDoorKC
import Derived.Test.YtkjaoandifednaaGreatDoorKD
namespace Go.Proofs.YtkjaoandifednaaGreatDoor.W.Tr
open Go.ChangeShapes Go.WideShapes Go.RowKit Go.Shelf
set_option linter.unusedVariables false
set_option linter.unusedSimpArgs false
theorem szB:(Tryz.prog.info? 83).map (·.size)=some 2:=by kernel_rfl
theorem liesB:liesAt Tryz.prog Tryz.prog.depth 83 (2 / Tryz.prog.cellsOf 83) 0 83 1=true:=by kernel_rfl
theorem infoU8:(Tryz.prog.info? 5).map (fun i=>(i.zero,i.size,i.bytes))=some (some (.int .u8 0),1,1):=by kernel_rfl
def Bd (B b:Nat) (l:List UInt8) (W:World):Prop:=Lib.IsBuilder 83 5 B b (Lib.byteCells l) W
def BUp (b:Nat) (W W':World):Prop:=It.Upd (fun k=>k=b∨∃ cur,W.heap[k]? = some (.cells cur 5 (0,0))) W W'
set_option maxHeartbeats 1000000 in
set_option maxRecDepth 100000 in
theorem chk_used (b:Nat) (w:World) (h0:w.cell? ⟨b,0,none⟩=some (.pointer (some ⟨b,0,none⟩))) :
  Calls Tryz.prog 64 #[.pointer (some ⟨b,0,none⟩)] w fun e w'=>e=.returned (.tuple #[])∧w'=w:=by
 obtain ⟨j,hj,_⟩:=Option.map_eq_some_iff.1 szB
 go_enter Tryz.func64,Tryz.ntmps64
 go_wp2
 rw [Lib.run_neq_ptr_same w _ Tryz.underlying81 hj]
 go_wp2
 go_end0
 exact ⟨rfl,rfl⟩
set_option maxHeartbeats 1000000 in
set_option maxRecDepth 100000 in
theorem chk_fresh (b:Nat) (w:World) (h0:w.cell? ⟨b,0,none⟩=some (.pointer none)) (hsh:w.shape? b=some (83,2)) (hfz:w.frozen? ⟨b,0,none⟩=false) :
  Calls Tryz.prog 64 #[.pointer (some ⟨b,0,none⟩)] w fun e w'=>e=.returned (.tuple #[])∧w'=w.setCell ⟨b,0,none⟩ (.pointer (some ⟨b,0,none⟩)):=by
 obtain ⟨j,hj,hjs⟩:=Option.map_eq_some_iff.1 szB
 go_enter Tryz.func64,Tryz.ntmps64
 go_wp2
 rw [Lib.run_to_unsafe w ⟨b,0,none⟩ Tryz.underlying81 Tryz.underlying124 hj (by rw [hjs];decide) hsh (Nat.zero_lt_succ 1)]
 simp only [Result.andThen]
 rw [Oper.upon_value]
 go_wp2
 rw [run_callFunc_extern Tryz.func85 (by kernel_rfl) (by kernel_rfl) (by kernel_rfl) (e:=Extern.AbiNoEscape.same) (by kernel_rfl)]
 rw [Lib.run_noEscape]
 simp only [Result.andThen]
 rw [Oper.upon_value]
 go_wp2
 rw [Lib.run_from_unsafe w ⟨b,0,none⟩ Tryz.underlying124 Tryz.underlying81 hj hsh liesB]
 simp only [Result.andThen]
 rw [Oper.upon_value]
 go_wp2
 go_end0
 exact ⟨rfl,rfl⟩
theorem chk_c (B b:Nat) (bs:List Value) (w:World) (h:Lib.IsBuilder 83 5 B b bs w) :
  Calls Tryz.prog 64 #[.pointer (some ⟨b,0,none⟩)] w fun e w'=>e=.returned (.tuple #[])∧(Lib.BuilderAt 83 5 B b (.pointer (some ⟨b,0,none⟩)) bs w'∧It.Upd (fun k=>k=b) w w'):=by
 rcases h with h | h
 ·refine (chk_fresh b w h.cell0 h.shape h.frozen0).mono ?_
  rintro e w' ⟨rfl,rfl⟩
  exact ⟨rfl,h.used _,(It.Upd.refl (fun k=>k=b) w).setCell (p:=⟨b,0,none⟩) (.inl rfl) _⟩
 ·refine (chk_used b w h.cell0).mono ?_
  rintro e w' ⟨rfl,rfl⟩
  exact ⟨rfl,h,It.Upd.refl _ _⟩
theorem row_u8 {W:World} {B:Nat} {v:Value} {n:Nat} {xs:List Value} (h:W.ownsRow B 5 1 v n xs) {k:Nat} (hk:v.ownBlock=some k):∃ cur,W.heap[k]? = some (.cells cur 5 (0,0)):=by
 rcases h.2 with ⟨rfl,_⟩ | ⟨g,cap,cur,rfl,h2,h3,_⟩
 ·cases hk
 ·cases hk;exact ⟨cur,h3⟩
theorem upd_back {w w1 w2:World} {b:Nat} {v:Value} {B n:Nat} {xs:List Value} (hB:B≤b) (hBw:B≤w.heap.size) (hb1:It.Upd (fun k=>k=b) w w1) (hown:w1.ownsRow B 5 1 v n xs) (hne:v.ownBlock ≠ some b) (hu:It.Upd (fun k=>v.ownBlock=some k) w1 w2) (q:Value):BUp b w (w2.setCell ⟨b,1,none⟩ q)∧Below B w (w2.setCell ⟨b,1,none⟩ q):=by
 have hn:∀ k,v.ownBlock=some k→It.Nx (fun k=>k=b∨∃ cur,w.heap[k]? = some (.cells cur 5 (0,0))) w w1 k:=by
  intro k e
  have hk:=hown.lt k e
  obtain ⟨cur,hc⟩:=row_u8 hown e
  rcases Nat.lt_or_ge k w.heap.size with hlt | hge
  ·refine .inl (.inr ⟨cur,?_⟩)
   rw [← hb1.block k hlt (by rintro rfl;exact hne e)]
   exact hc
  ·exact .inr ⟨hge,hk.2⟩
 have h1:It.Upd (fun k=>k=b∨∃ cur,w.heap[k]? = some (.cells cur 5 (0,0))) w w2:=(hb1.mono (fun k e=>.inl e)).trans (hu.mono hn)
 refine ⟨h1.setCell (p:=⟨b,1,none⟩) (.inl (.inl rfl)) _,?_⟩
 have h2:Below B w w2:=(hb1.below hBw (fun k e=>by omega)).trans (hu.below (Nat.le_trans hBw hb1.size) (fun k e=>(hown.lt k e).1))
 exact h2.setCell (p:=⟨b,1,none⟩) hB _
set_option maxHeartbeats 2000000 in
set_option maxRecDepth 100000 in
theorem wbyte_c (B b:Nat) (l:List UInt8) (c:UInt8) (w:World) (h:Bd B b l w) (hlen:l.length + 1≤140737488355328) (hBw:B≤w.heap.size) :
  Calls Tryz.prog 37 #[.pointer (some ⟨b,0,none⟩),.int .u8 c.toNat] w fun e w'=>e=.returned .nilIface∧(Bd B b (l ++ [c]) w'∧BUp b w w'∧Below B w w'):=by
 have cc:=chk_c B b _ w h
 obtain ⟨i0,hi,hz0,hz1,hz2⟩:=info_parts infoU8
 have e1:(Lib.byteCells l).length=l.length:=by simp [Lib.byteCells]
 go_enter Tryz.func37,Tryz.ntmps37
 go_wp2_with (go_at_call 64;(with_reducible refine cc.mono ?_))
 rintro e w1 ⟨rfl,h1,hb1⟩
 obtain ⟨hB,v,hbk,hown,hne⟩:=h1
 have c0:w1.cell? ⟨b,0,none⟩=some (.pointer (some ⟨b,0,none⟩)):=by rw [Lib.cell_of_heap hbk];rfl
 have c1:w1.cell? ⟨b,1,none⟩=some v:=by rw [Lib.cell_of_heap hbk];rfl
 go_wp2_with (at_builtin;refine wpList_append_own _ rfl _ _ 57 rfl B 5 i0 (.int .u8 0) 1 1 Tryz.underlying57 hi hz0 hz1 hz2 rfl (by decide) _ _ _ rfl (hown.alloc _) ⟨w1.heap.size,0,none⟩ 1 1 [.int .u8 c.toNat] rfl rfl ?c1 ?c2 ?c3 ?c4 ?c5 ?_)
 case c1=>
  intro j u hj
  match j,hj with
  | 0,hj=>simp at hj;subst hj;simp [Addr.add]
 case c2=>intro u hu;simp at hu;subst hu;rfl
 case c3=>unfold maxLen;omega
 case c4=>omega
 case c5=>have:=hb1.size;simp;omega
 intro v' w2 hown' hgrow _
 have hlt:b < w1.heap.size:=(Array.getElem?_eq_some_iff.1 hbk).1
 have hu:It.Upd (fun k=>v.ownBlock=some k) w1 w2:=((It.Upd.refl _ w1).alloc _).trans' ((It.Upd.refl _ _).grown hgrow (fun k e=>.inl e))
 have hb2:w2.heap[b]? = some (.cells #[.pointer (some ⟨b,0,none⟩),v] 83 (0,0)):=(hu.block b hlt hne).trans hbk
 have d0:w2.cell? ⟨b,0,none⟩=some (.pointer (some ⟨b,0,none⟩)):=by rw [Lib.cell_of_heap hb2];rfl
 have d1:w2.cell? ⟨b,1,none⟩=some v:=by rw [Lib.cell_of_heap hb2];rfl
 have f1:w2.frozen? ⟨b,1,none⟩=false:=Lib.frozen_of_heap hb2 1
 obtain ⟨g,cap,rfl⟩:∃ g cap,v'=.slice (some ⟨g,0,none⟩) (l.length + 1) cap:=by
  rcases hown'.2 with ⟨_,h0⟩ | ⟨g,cap,cur,hv,_⟩
  ·omega
  ·exact ⟨g,cap,hv⟩
 have fin:=upd_back hB hBw hb1 hown hne hu (.slice (some ⟨g,0,none⟩) (l.length + 1) cap)
 go_wp2
 go_ret
 refine ⟨rfl,.inr ?_,fin⟩
 exact Lib.BuilderAt.put (T:=83) (e:=5) hB hb2 (bs':=Lib.byteCells (l ++ [c])) (by simpa [Lib.byteCells] using hown') (by decide)
set_option maxHeartbeats 2000000 in
set_option maxRecDepth 100000 in
theorem wstr_c (B b:Nat) (l:List UInt8) (s:ByteArray) (w:World) (h:Bd B b l w) (hlen:l.length + s.size≤140737488355328) (hBw:B≤w.heap.size) :
  Calls Tryz.prog 38 #[.pointer (some ⟨b,0,none⟩),.string s] w fun e w'=>e=.returned (.tuple #[.int .i64 s.size,.nilIface])∧(Bd B b (l ++ s.data.toList) w'∧BUp b w w'∧Below B w w'):=by
 have cc:=chk_c B b _ w h
 obtain ⟨i0,hi,hz0,hz1,hz2⟩:=info_parts infoU8
 have e1:(Lib.byteCells l).length=l.length:=by simp [Lib.byteCells]
 go_enter Tryz.func38,Tryz.ntmps38
 go_wp2_with (go_at_call 64;(with_reducible refine cc.mono ?_))
 rintro e w1 ⟨rfl,h1,hb1⟩
 obtain ⟨hB,v,hbk,hown,hne⟩:=h1
 have c0:w1.cell? ⟨b,0,none⟩=some (.pointer (some ⟨b,0,none⟩)):=by rw [Lib.cell_of_heap hbk];rfl
 have c1:w1.cell? ⟨b,1,none⟩=some v:=by rw [Lib.cell_of_heap hbk];rfl
 go_wp2_with (at_builtin;refine Lib.wpList_append_own_string _ rfl _ _ 57 9 rfl B 5 i0 Tryz.underlying57 Tryz.underlying9 hi hz0 hz1 hz2 _ _ _ rfl hown s rfl ?c3 ?c4 ?c5 ?_)
 case c3=>unfold maxLen;omega
 case c4=>omega
 case c5=>have:=hb1.size;omega
 intro v' w2 hown' hgrow _
 have hlt:b < w1.heap.size:=(Array.getElem?_eq_some_iff.1 hbk).1
 have hu:It.Upd (fun k=>v.ownBlock=some k) w1 w2:=(It.Upd.refl _ _).grown hgrow (fun k e=>.inl e)
 have hb2:w2.heap[b]? = some (.cells #[.pointer (some ⟨b,0,none⟩),v] 83 (0,0)):=(hu.block b hlt hne).trans hbk
 have d0:w2.cell? ⟨b,0,none⟩=some (.pointer (some ⟨b,0,none⟩)):=by rw [Lib.cell_of_heap hb2];rfl
 have d1:w2.cell? ⟨b,1,none⟩=some v:=by rw [Lib.cell_of_heap hb2];rfl
 have f1:w2.frozen? ⟨b,1,none⟩=false:=Lib.frozen_of_heap hb2 1
 obtain ⟨ao,n',cap,rfl⟩:∃ ao n' cap,v'=.slice ao n' cap:=by
  rcases hown'.2 with ⟨hv,_⟩ | ⟨g,cap,cur,hv,_⟩
  ·exact ⟨_,_,_,hv⟩
  ·exact ⟨_,_,_,hv⟩
 have fin:=upd_back hB hBw hb1 hown hne hu (.slice ao n' cap)
 go_wp2
 go_ret2
 refine ⟨rfl,.inr ?_,fin⟩
 refine Lib.BuilderAt.put (T:=83) (e:=5) hB hb2 (bs':=Lib.byteCells (l ++ s.data.toList)) ?_ (by decide)
 have e2:Lib.byteCells (l ++ s.data.toList)=Lib.byteCells l ++ Lib.strCells s:=by simp [Lib.byteCells,Lib.strCells]
 rw [e2,List.length_append,Lib.strCells_length,e1]
 exact hown'
structure Pq (w W:World) (u bv:Value) (ls:List ByteArray) (out:List UInt8):Prop where
 bel:Below w.heap.size w W
 sz:w.heap.size + 3≤W.heap.size
 box:W.heap[w.heap.size + 2]? = some (.cells #[u] 55 (0,0))
 row:OS W w.heap.size u ls
 bdr:W.ownsRow w.heap.size 5 1 bv out.length (Lib.byteCells out)
 bdp:∃ p,(p=.pointer none∨p=.pointer (some ⟨w.heap.size,0,none⟩))∧W.heap[w.heap.size]? = some (.cells #[p,bv] 83 (0,0))
section
variable {w W W':World} {u bv u' bv':Value} {ls:List ByteArray} {out:List UInt8} {S:Nat→Prop}
theorem Pq.ub (q:Pq w W u bv ls out) {k:Nat} (e:u.ownBlock=some k):w.heap.size≤k∧k < W.heap.size∧k ≠ w.heap.size + 2∧k ≠ w.heap.size∧bv.ownBlock ≠ some k:=by
 obtain ⟨cur,hc⟩:=own_kind q.row e
 obtain ⟨p,_,hp⟩:=q.bdp
 refine ⟨(q.row.lt k e).1,(q.row.lt k e).2,?_,?_,?_⟩
 ·rintro rfl
  rw [q.box] at hc;cases hc
 ·rintro rfl
  rw [hp] at hc;cases hc
 ·intro er
  obtain ⟨cur',hc'⟩:=own_kind q.bdr er
  rw [hc] at hc';cases hc'
theorem Pq.rb (q:Pq w W u bv ls out) {k:Nat} (e:bv.ownBlock=some k):w.heap.size≤k∧k < W.heap.size∧k ≠ w.heap.size + 2∧k ≠ w.heap.size∧u.ownBlock ≠ some k:=by
 obtain ⟨cur,hc⟩:=own_kind q.bdr e
 obtain ⟨p,_,hp⟩:=q.bdp
 refine ⟨(q.bdr.lt k e).1,(q.bdr.lt k e).2,?_,?_,?_⟩
 ·rintro rfl
  rw [q.box] at hc;cases hc
 ·rintro rfl
  rw [hp] at hc;cases hc
 ·intro er
  exact (q.ub er).2.2.2.2 e
theorem Pq.keep (q:Pq w W u bv ls out) (hU:It.Upd S W W') (hS:∀ k,S k→w.heap.size≤k∧k ≠ w.heap.size + 2∧k ≠ w.heap.size∧u.ownBlock ≠ some k∧bv.ownBlock ≠ some k):Pq w W' u bv ls out:=by
 have z:=q.sz
 obtain ⟨p,hp0,hp⟩:=q.bdp
 refine ⟨q.bel.trans (hU.below (by omega) (fun k e=>(hS k e).1)),Nat.le_trans z hU.size,(hU.block _ (by omega) (fun e=>(hS _ e).2.1 rfl)).trans q.box,owns_onX q.row (fun k e=>hU.block k (q.ub e).2.1 (fun g=>(hS k g).2.2.2.1 e)),owns_onX q.bdr (fun k e=>hU.block k (q.rb e).2.1 (fun g=>(hS k g).2.2.2.2 e)),p,hp0,(hU.block _ (by omega) (fun e=>(hS _ e).2.2.1 rfl)).trans hp⟩
theorem Pq.below (q:Pq w W u bv ls out) (hB:Below W.heap.size W W'):Pq w W' u bv ls out:=
 q.keep (S:=fun _=>False) (It.Upd.of_below hB) (fun k e=>e.elim)
theorem Pq.set {ls':List ByteArray} (q:Pq w W u bv ls out) (h:OS W w.heap.size u' ls'):Pq w (W.setCell ⟨w.heap.size + 2,0,none⟩ u') u' bv ls' out:=by
 have z:=q.sz
 obtain ⟨p,hp0,hp⟩:=q.bdp
 have hn:∀ k,u'.ownBlock=some k→k ≠ w.heap.size + 2:=by
  rintro k e rfl
  obtain ⟨cur,hc⟩:=own_kind h e
  rw [q.box] at hc;cases hc
 refine ⟨q.bel.setCell (by show w.heap.size≤w.heap.size + 2;omega) _,by simp [World.setCell];exact z,heap_setX (c:=[u]) q.box 0 u',owns_onX h (fun k e=>Below.heap_setCell _ _ _ _ (hn k e)),owns_onX q.bdr (fun k e=>Below.heap_setCell _ _ _ _ (q.rb e).2.2.1),p,hp0,(Below.heap_setCell _ _ _ _ (by show w.heap.size ≠ w.heap.size + 2;omega)).trans hp⟩
theorem os_pop {W:World} {B g n c:Nat} {L:List ByteArray} {x:ByteArray} (h:OS W B (.slice (some ⟨g,0,none⟩) n c) (L ++ [x])):OS W B (.slice (some ⟨g,0,none⟩) L.length c) L:=by
 unfold OS at *
 rcases h.2 with ⟨h0,_⟩ | ⟨g',cap,cur,h0,h2,h3,h4,h5,h6,h7⟩
 ·cases h0
 ·simp only [List.length_append,List.length_cons,List.length_nil,Value.slice.injEq,Option.some.injEq,Addr.mk.injEq,true_and,and_true] at h0
  obtain ⟨rfl,h0,rfl⟩:=h0
  refine ⟨by simp,.inr ⟨g,c,cur,rfl,h2,h3,?_,h5,h6,?_⟩⟩
  ·simp at h4;omega
  ·have h8:=congrArg (List.take L.length) h7
   have e9:((L ++ [x]).map Value.string).take L.length=L.map Value.string:=by
    rw [List.map_append,List.take_append_of_le_length (by simp),List.take_of_length_le (by simp)]
   rw [List.take_take,e9,show min L.length ((L ++ [x]).length * 1)=L.length by simp] at h8
   rw [Nat.mul_one,h8]
theorem Pq.push {x:ByteArray} {w1:World} (q:Pq w W u bv ls out) (h2:OS w1 w.heap.size u' (ls ++ [x])) (h3:(W.alloc (.cells #[.string x] 9)).grownBy w1 u.ownBlock):Pq w (w1.setCell ⟨w.heap.size + 2,0,none⟩ u') u' bv (ls ++ [x]) out:=by
 have z:=q.sz
 have hU:It.Upd (fun k=>u.ownBlock=some k) W w1:=((It.Upd.refl _ W).alloc _).trans' ((It.Upd.refl _ _).grown h3 (fun k e=>.inl e))
 obtain ⟨p,hp0,hp⟩:=q.bdp
 have q1:w1.heap[w.heap.size + 2]? = some (.cells #[u] 55 (0,0)):=(hU.block _ (by omega) (fun e=>(q.ub e).2.2.1 rfl)).trans q.box
 have hn:∀ k,u'.ownBlock=some k→k ≠ w.heap.size + 2:=by
  rintro k e rfl
  obtain ⟨cur,hc⟩:=own_kind h2 e
  rw [q1] at hc;cases hc
 refine ⟨(q.bel.trans (hU.below (by omega) (fun k e=>(q.ub e).1))).setCell (by show w.heap.size≤w.heap.size + 2;omega) _,by have:=hU.size;simp [World.setCell];omega,heap_setX (c:=[u]) q1 0 u',owns_onX h2 (fun k e=>Below.heap_setCell _ _ _ _ (hn k e)),owns_onX q.bdr (fun k e=>(Below.heap_setCell _ _ _ _ (q.rb e).2.2.1).trans (hU.block k (q.rb e).2.1 (q.rb e).2.2.2.2)),p,hp0,(Below.heap_setCell _ _ _ _ (by show w.heap.size ≠ w.heap.size + 2;omega)).trans ((hU.block _ (by omega) (fun e=>(q.ub e).2.2.2.1 rfl)).trans hp)⟩
theorem Pq.bd (q:Pq w W u bv ls out):Bd w.heap.size w.heap.size out W:=by
 obtain ⟨p,hp0,hp⟩:=q.bdp
 have h:Lib.BuilderAt 83 5 w.heap.size w.heap.size p (Lib.byteCells out) W:=by
  refine ⟨Nat.le_refl _,bv,hp,?_,fun e=>(q.rb e).2.2.2.1 rfl⟩
  rw [show (Lib.byteCells out).length=out.length by simp [Lib.byteCells]]
  exact q.bdr
 rcases hp0 with rfl | rfl
 ·exact .inl h
 ·exact .inr h
theorem Pq.wrote {out':List UInt8} (q:Pq w W u bv ls out) (h:Bd w.heap.size w.heap.size out' W') (hU:BUp w.heap.size W W') (hB:Below w.heap.size W W'):∃ bv',Pq w W' u bv' ls out':=by
 have z:=q.sz
 have hl:(Lib.byteCells out').length=out'.length:=by simp [Lib.byteCells]
 have key:∀ p,(p=.pointer none∨p=.pointer (some ⟨w.heap.size,0,none⟩))→Lib.BuilderAt 83 5 w.heap.size w.heap.size p (Lib.byteCells out') W'→∃ bv',Pq w W' u bv' ls out':=by
  rintro p hp ⟨_,v,hv,ho,_⟩
  rw [hl] at ho
  refine ⟨v,q.bel.trans hB,Nat.le_trans z hU.size,(hU.block _ (by omega) ?_).trans q.box,owns_onX q.row (fun k e=>hU.block k (q.ub e).2.1 ?_),ho,p,hp,hv⟩
  ·rintro (e | ⟨cur,e⟩)
   ·omega
   ·rw [q.box] at e;cases e
  ·rintro (g | ⟨cur,g⟩)
   ·exact (q.ub e).2.2.2.1 g
   ·obtain ⟨cur',hc⟩:=own_kind q.row e
    rw [hc] at g;cases g
 rcases h with h | h
 ·exact key _ (.inl rfl) h
 ·exact key _ (.inr rfl) h
end
theorem pq_start (w:World):Pq w (((w.alloc (.cells #[.pointer none,.slice none 0 0] 83)).alloc (.cells #[.string ⟨#[]⟩] 9)).alloc (.cells #[.slice (some ⟨w.heap.size + 1,0,none⟩) 1 1] 55)) (.slice (some ⟨w.heap.size + 1,0,none⟩) 1 1) (.slice none 0 0) [tK] []:=by
 have n1:=World.alloc_heap_new w (.cells #[.pointer none,.slice none 0 0] 83)
 have n2:=World.alloc_heap_new (w.alloc (.cells #[.pointer none,.slice none 0 0] 83)) (.cells #[.string ⟨#[]⟩] 9)
 have n3:=World.alloc_heap_new ((w.alloc (.cells #[.pointer none,.slice none 0 0] 83)).alloc (.cells #[.string ⟨#[]⟩] 9)) (.cells #[.slice (some ⟨w.heap.size + 1,0,none⟩) 1 1] 55)
 simp only [World.size_alloc] at n2 n3
 have m1:=(Below.heap_alloc (w.alloc (.cells #[.pointer none,.slice none 0 0] 83)) (.cells #[.string ⟨#[]⟩] 9) w.heap.size (by simp)).trans n1
 refine ⟨(((Below.refl _ w).alloc (Nat.le_refl _) _).alloc (by simp) _).alloc (by simp only [World.size_alloc];omega) _,by simp,n3,os_lit (l:=[.string ⟨#[]⟩]) (ts:=[tK]) rfl ((Below.heap_alloc _ _ _ (by simp)).trans n2) (by omega) (by simp),World.ownsRow_nil _ _ _ _,_,.inl rfl,(Below.heap_alloc _ _ _ (by simp only [World.size_alloc];omega)).trans m1⟩
theorem list49 (f:Nat→Value):(List.range 49).map f=[f 0,f 1,f 2,f 3,f 4,f 5,f 6,f 7,f 8,f 9,f 10,f 11,f 12,f 13,f 14,f 15,f 16,f 17,f 18,f 19,f 20,f 21,f 22,f 23,f 24,f 25,f 26,f 27,f 28,f 29,f 30,f 31,f 32,f 33,f 34,f 35,f 36,f 37,f 38,f 39,f 40,f 41,f 42,f 43,f 44,f 45,f 46,f 47,f 48]:=rfl
def pact (x0 x3 x4 x5:Value) (u:Nat→Value):Array Value:=#[x0,u 1,u 2,x3,x4,x5,u 6,u 7,u 8,u 9,u 10,u 11,u 12,u 13,u 14,u 15,u 16,u 17,u 18,u 19,u 20,u 21,u 22,u 23,u 24,u 25,u 26,u 27,u 28,u 29,u 30,u 31,u 32,u 33,u 34,u 35,u 36,u 37,u 38,u 39,u 40,u 41,u 42,u 43,u 44,u 45,u 46,u 47,u 48]
theorem pact_of (t:Array Value) {x0 x3 x4 x5:Value} (hs:t.size=49) (h0:t.getD 0 undef=x0) (h3:t.getD 3 undef=x3) (h4:t.getD 4 undef=x4) (h5:t.getD 5 undef=x5):∃ u,t=pact x0 x3 x4 x5 u:=by
 refine ⟨fun n=>t.getD n undef,?_⟩
 subst h0 h3 h4 h5
 have e:t.toList=(List.range 49).map (fun n=>t.getD n undef):=by
  apply List.ext_getElem?
  intro i
  by_cases hi:i < 49
  ·rw [List.getElem?_map,List.getElem?_range hi]
   simp [hi,hs]
  ·rw [List.getElem?_eq_none (by simp;omega),List.getElem?_eq_none (by simp;omega)]
 rw [list49] at e
 have:t=t.toList.toArray:=by simp
 rw [this,e]
 rfl
def prF (tk:Nd × Nat→List ByteArray) (L:List (Nd × Nat)):Nat→List ByteArray→Nat→List UInt8→Option (List UInt8)
 | 0,_,_,_=>none
 | f + 1,[],at',out=>some (if out=[] then [] else out ++ [10])
 | f + 1,s :: ls,at',out=>if s.toList == [] then (match L[at']? with
   | some p=>if (tk p).length + ls.length≤2000000 then prF tk L f (tk p ++ ls) (at' + 1) out else none
   | none=>none)
  else if out.length + s.size + 2≤1000000000 then prF tk L f ls at' ((if out=[] then [] else out ++ [32]) ++ s.data.toList) else none
end Go.Proofs.YtkjaoandifednaaGreatDoor.W.Tr

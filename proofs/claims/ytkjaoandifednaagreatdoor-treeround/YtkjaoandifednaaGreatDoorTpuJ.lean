import Derived.Test.YtkjaoandifednaaGreatDoorKF
import Derived.Test.YtkjaoandifednaaGreatDoorShelfQ
import Derived.Test.YtkjaoandifednaaGreatDoorKD
namespace Go.Proofs.YtkjaoandifednaaGreatDoor.W.Tr
open Go.ChangeShapes Go.WideShapes Go.RowKit Go.Shelf
set_option linter.unusedVariables false
set_option linter.unusedSimpArgs false
def lenC:Option Value→Nat
 | some (.slice _ n _)=>n
 | _=>0
theorem len_b (b:Nat) (l:List UInt8) (w:World) (h:Bd b b l w):Calls Tryz.prog 36 #[.pointer (some ⟨b,0,none⟩)] w fun e w'=>e=.returned (.int .i64 (l.length:Nat))∧w'=w:=by
 have:=Tryz.Builder_Len b b (Lib.byteCells l) w h
 rwa [show (Lib.byteCells l).length=l.length by simp [Lib.byteCells]] at this
theorem str_b (b:Nat) (l:List UInt8) (w:World) (h:Bd b b l w) (hB:b≤w.heap.size):Calls Tryz.prog 39 #[.pointer (some ⟨b,0,none⟩)] w fun e w'=>e=.returned (.string ⟨l.toArray⟩)∧Below b w w'∧∀ k:Nat,w.heap[k]? = some (.deferred (some []))→k ≠ b→w'.heap[k]? = some (.deferred (some [])):=by
 refine (Tryz.Builder_String_any_k b b l w (Lib.IsBuilderF.of h) hB).mono ?_
 rintro e w' ⟨rfl,_,h2,h3⟩
 refine ⟨rfl,h2,fun k hk hne=>h3 k _ hk (fun e=>hne (Option.some.inj e)) (fun c fz e=>by cases e)⟩
theorem marks_b {w W W':World} {ds:List Deferred} (h:Marks w.heap.size W ds) (hU:BUp w.heap.size W W') (hb:∃ c t,W.heap[w.heap.size]? = some (.cells c t (0,0))):Marks w.heap.size W' ds:=by
 refine Marks.kept ?_ ds h
 intro k _ hk
 refine hU.block k (Array.getElem?_eq_some_iff.1 hk).1 ?_
 rintro (rfl | ⟨cur,e⟩)
 ·obtain ⟨c,t,hc⟩:=hb
  rw [hc] at hk;cases hk
 ·rw [e] at hk;cases hk
theorem Pq.blk {w W:World} {u bv:Value} {ls:List ByteArray} {out:List UInt8} (q:Pq w W u bv ls out):∃ c t,W.heap[w.heap.size]? = some (.cells c t (0,0)):=by
 obtain ⟨p,_,hp⟩:=q.bdp
 exact ⟨_,_,hp⟩
theorem append_str (W:World) (ty:TypeId) (v:Value) (n:Nat) (xs:List Value) {B0:Nat} (hown:W.ownsRow B0 9 1 v n xs) (hB:B0≤W.heap.size) (x:ByteArray) (hn:n≤4000000):∃ v' w',(Builtin.append_ #[55,55] ty #[v,.slice (some ⟨W.heap.size,0,none⟩) 1 1]).run Tryz.prog (W.alloc (.cells #[.string x] 9))=.ok v' w'∧w'.ownsRow B0 9 1 v' (n + 1) (xs ++ [.string x])∧(W.alloc (.cells #[.string x] 9)).grownBy w' v.ownBlock∧(v'.ownBlock=v.ownBlock∨v'.ownBlock=some (W.alloc (.cells #[.string x] 9)).heap.size):=by
 obtain ⟨i0,hi,hz0,hz1,hz2⟩:=info_parts infoS
 have e0:=World.cell?_alloc_new W #[.string x] 9
 have ho:=hown.alloc (.cells #[.string x] 9)
 obtain ⟨v',w',h1,h2,h3,_,h5⟩:=run_append_own_at (P:=Tryz.prog) (W.alloc (.cells #[.string x] 9)) B0 55 ty 9 i0 _ 1 16 underS hi hz0 hz1 hz2 rfl (by omega) v n xs ho ⟨W.heap.size,0,none⟩ 1 1 [.string x] (by simp) (by
  intro j u hj
  have e1:((⟨W.heap.size,0,none⟩:Addr).add j)=⟨W.heap.size,j,none⟩:=by simp [Addr.add];intro e;exact e.symm
  rw [e1,e0 j]
  simpa using hj) (by
  intro u hu
  simp at hu
  rcases hu with rfl
  rfl) (by unfold maxLen;omega) (by omega) (by simp;omega)
 exact ⟨v',w',h1,h2,h3,h5⟩
structure Kt (w W4:World) (lo sb:Nat) (kv bv:Value) (out:List UInt8) (L bk:List ByteArray) (i:Nat) (D:Nat→Prop) (W:World):Prop where
 q:∃ u,Pq w W u bv (L ++ bk.reverse.take i) out∧(∀ k,u.ownBlock=some k→k < lo∨W4.heap.size + 2≤k)∧∀ k,D k↔k=w.heap.size + 2∨u.ownBlock=some k
 box:W.heap[sb]? = some (.cells #[kv] 55 (0,0))
 kr:OS W lo kv bk
 kb:∀ k,kv.ownBlock=some k→k < W4.heap.size
 lt:sb < W4.heap.size
 lo1:w.heap.size + 3≤lo
 lo2:lo≤sb
 sz:W4.heap.size≤W.heap.size
 rb:∀ k,bv.ownBlock=some k→k < W4.heap.size
 keep:∀ k:Nat,W4.heap[k]? = some (.deferred (some []))→W.heap[k]? = some (.deferred (some []))
theorem Kt.upd {w W4 W W':World} {lo sb i:Nat} {kv bv:Value} {out:List UInt8} {L bk:List ByteArray} {D:Nat→Prop} (h:Kt w W4 lo sb kv bv out L bk i D W) (hu:It.Upd (fun k=>k=W4.heap.size + 1) W W'):Kt w W4 lo sb kv bv out L bk i D W':=by
 obtain ⟨u,q,h1,h2⟩:=h.q
 have:=h.lt
 have:=h.lo1
 have:=h.lo2
 have:=h.sz
 refine ⟨⟨u,q.keep hu (fun k e=>⟨by omega,by omega,by omega,fun g=>by have:=h1 k g;omega,fun g=>by have:=h.rb k g;omega⟩),h1,h2⟩,(hu.block _ (by omega) (by omega)).trans h.box,owns_onX h.kr (fun k e=>hu.block k (by have:=h.kb k e;omega) (by have:=h.kb k e;omega)),h.kb,h.lt,h.lo1,h.lo2,Nat.le_trans h.sz hu.size,h.rb,fun k hk=>(hu.block k ?_ ?_).trans (h.keep k hk)⟩
 ·exact (Array.getElem?_eq_some_iff.1 (h.keep k hk)).1
 ·have:=(Array.getElem?_eq_some_iff.1 hk).1;omega
theorem take_backS (bk:List ByteArray) (i:Nat) (hi:i < bk.length):bk.reverse.take (i + 1)=bk.reverse.take i ++ [bk.getD (bk.length - 1 - i) ⟨#[]⟩]:=by
 rw [List.take_succ_eq_append_getElem (by simpa using hi),List.getElem_reverse,List.getD_eq_getElem?_getD,List.getElem?_eq_getElem (by omega)]
 rfl
theorem Marks.lt' {B:Nat} {w:World}:∀ ds,Marks B w ds→∀ d ∈ ds,∃ r,d={ target:=.collected r,args:=#[] }∧r < w.heap.size
 | [],_,d,hd=>by cases hd
 | d0 :: ds,⟨⟨r,h1,h2,h3,h4⟩,h5⟩,d,hd=>by
  rcases List.mem_cons.1 hd with rfl | hd
  ·exact ⟨r,h1,(Array.getElem?_eq_some_iff.1 h3).1⟩
  ·exact Marks.lt' ds h5 d hd
set_option maxRecDepth 100000 in
set_option maxHeartbeats 4000000 in
theorem printed_core (w:World) (v:Value) (L:List (Nd × Nat)) (tk:Nd × Nat→List ByteArray) (res:List UInt8) (fuel:Nat) (hN:NR w v L) (hNl:∀ k,v.ownBlock=some k→k < w.heap.size) (htk:∀ p ∈ L,∀ w',Below w.heap.size w w'→TK 35 #[nv p] (tk p) w') (hpr:prF tk L fuel [tK] 0 []=some res) :
  Calls Tryz.prog 21 #[v] w fun e w'=>e=.returned (.string ⟨res.toArray⟩)∧Below w.heap.size w w':=by
 obtain ⟨gl,lc,rfl,hL,hcell⟩:=id hN
 clear hcell
 have q0:=pq_start w
 refine (callsIn_wide (n:=9)).1 ?_
 refine callsIn_of_wp_marks Tryz.func21 rfl trivial ?_ rfl
 refine wpIn_wide.2 ?_
 simp only [Tryz.ntmps21,List.size_toArray,List.length_cons,List.length_nil,Nat.reduceAdd,Nat.reduceSub,Array.replicate_succ,Array.replicate_zero,List.push_toArray,List.append_toArray,List.nil_append,List.cons_append]
 go_upto_region 4 with fail
 generalize World.alloc (World.alloc (World.alloc w _) _) _=W0 at *
 have HN:=hid hN
 have HNL:=hid hNl
 have HTK:=hid htk
 clear hN hNl htk
 refine wp_loop (fun a' w'=>(a'.tmps.size=49∧a'.tmps.getD 0 undef=.slice (some ⟨gl,0,none⟩) L.length lc∧a'.tmps.getD 3 undef=.pointer (some ⟨w.heap.size,0,none⟩)∧a'.tmps.getD 5 undef=.pointer (some ⟨w.heap.size + 2,0,none⟩))∧Marks w.heap.size w' a'.defers∧∃ (u bv:Value) (ls:List ByteArray) (out:List UInt8) (f n:Nat),a'.tmps.getD 4 undef=.int .i64 (n:Nat)∧n≤L.length∧Pq w w' u bv ls out∧ls.length≤2000000∧out.length≤1000000000∧prF tk L f ls.reverse n out=some res) (fun a' w'=>(L.length - (intOf (a'.tmps.getD 4 undef)).toNat) * 2000001 + lenC (w'.cell? ⟨w.heap.size + 2,0,none⟩)) ?_ ?_
 ·exact ⟨⟨rfl,rfl,rfl,rfl⟩,trivial,_,_,[tK],[],fuel,0,rfl,Nat.zero_le _,q0,by simp,by simp,hpr⟩
 clear q0 hpr
 rintro ⟨t,ds⟩ wr ⟨⟨hs,h0,h3,h5⟩,hM,u,bv,ls,out,f,n,h4,hnL,q,hll,hol,hpr⟩
 simp only at hs h0 h3 h5 h4 hM ⊢
 obtain ⟨uu,rfl⟩:=pact_of t hs h0 h3 h4 h5
 clear hs h0 h3 h5 h4
 unfold pact
 obtain ⟨o,c,rfl⟩:=slice_ofX q.row
 have co:wr.cell? ⟨w.heap.size + 2,0,none⟩=some (.slice o ls.length c):=row_cellsX q.box 0
 have zo:=row_thawX q.box 0
 cases f with
 | zero=>cases hpr
 | succ f=>
 rcases List.eq_nil_or_concat ls with rfl | ⟨L1,x,hls⟩
 ·have HM:=hid hM
  have HQ:=hid q
  simp only [List.reverse_nil,prF,Option.some.injEq] at hpr
  simp only [List.length_nil] at co
  have cl:=len_b w.heap.size out wr q.bd
  have zz:=q.sz
  cases out with
  | nil=>
   have cs:=str_b w.heap.size [] wr q.bd (by omega)
   rw [if_pos rfl] at hpr
   subst hpr
   simp only [List.length_nil] at cl
   clear hM q
   go_wp2_with (first | (go_at_call 36;(with_reducible refine cl.mono ?_);rintro e w2 ⟨rfl,hw⟩;(have hw':=hw.symm);subst hw';clear hw) | (go_at_call 39;(with_reducible refine cs.mono ?_);rintro e w9 ⟨rfl,hB9,hD9⟩;(have HB9:=hid hB9);(have HD9:=hid hD9);clear hB9 hD9 cs))
   have hM9:Marks w.heap.size w9 ds:=Marks.kept (fun k hk e=>by
    rw [e]
    refine HD9.out k e ?_
    rintro rfl
    obtain ⟨c,t,hc⟩:=HQ.out.blk
    rw [hc] at e;cases e) ds HM.out
   refine marks_leave ds w9 hM9 (fun w' hu=>?_)
   refine ⟨.string ⟨#[]⟩,by simp [results,Tryz.results21,go_sem],rfl,?_⟩
   exact (HQ.out.bel.trans HB9.out).trans (hu.below (by have:=(HQ.out.bel.trans HB9.out).size;omega) (fun k e=>e.1))
  | cons y out=>
   obtain ⟨O,hO⟩:∃ O,y :: out=O:=⟨_,rfl⟩
   have hne:¬ O=[]:=by rw [← hO];simp
   have hp:0 < O.length:=by rw [← hO];simp
   rw [hO] at q HQ hpr cl hol
   rw [if_neg hne] at hpr
   subst hpr
   clear hO hne
   have j1:((O.length:Nat):Int) > 0:=by omega
   have cw:Calls Tryz.prog 37 #[.pointer (some ⟨w.heap.size,0,none⟩),.int .u8 10] wr fun e w'=>e=.returned .nilIface∧(Bd w.heap.size w.heap.size (O ++ [10]) w'∧BUp w.heap.size wr w'∧Below w.heap.size wr w'):=wbyte_c w.heap.size w.heap.size O 10 wr q.bd (by omega) (by omega)
   have hx:∀ w5,(Bd w.heap.size w.heap.size (O ++ [10]) w5∧BUp w.heap.size wr w5∧Below w.heap.size wr w5)→Marks w.heap.size w5 ds∧∃ bv5,Pq w w5 (.slice o 0 c) bv5 [] (O ++ [10]):=by
    rintro w5 ⟨g1,g2,g3⟩
    exact ⟨marks_b HM.out g2 HQ.out.blk,HQ.out.wrote g1 g2 g3⟩
   have HX:=hid hx
   clear hM q hx
   go_wp2_with (first | (go_at_call 36;(with_reducible refine cl.mono ?_);rintro e w2 ⟨rfl,hw⟩;(have hw':=hw.symm);subst hw';clear hw) | (go_at_call 37;(with_reducible refine cw.mono ?_);rintro e w5 ⟨rfl,hw5⟩;(obtain ⟨m5,bv5,q5⟩:=HX.out w5 hw5);(have HM5:=hid m5);(have HQ5:=hid q5);(have cs:=str_b w.heap.size (O ++ [10]) w5 q5.bd (by have:=q5.sz;omega));clear hw5 m5 q5 cw cl) | (go_at_call 39;(with_reducible refine cs.mono ?_);rintro e w9 ⟨rfl,hB9,hD9⟩;(have HB9:=hid hB9);(have HD9:=hid hD9);clear hB9 hD9 cs))
   have hM9:Marks w.heap.size w9 ds:=Marks.kept (fun k hk e=>by
    rw [e]
    refine HD9.out k e ?_
    rintro rfl
    obtain ⟨c,t,hc⟩:=HQ5.out.blk
    rw [hc] at e;cases e) ds HM5.out
   refine marks_leave ds w9 hM9 (fun w' hu=>?_)
   refine ⟨.string ⟨(O ++ [10]).toArray⟩,by simp [results,Tryz.results21,go_sem],rfl,?_⟩
   exact (HQ5.out.bel.trans HB9.out).trans (hu.below (by have:=(HQ5.out.bel.trans HB9.out).size;omega) (fun k e=>e.1))
 ·rw [List.concat_eq_append] at hls
  subst hls
  obtain ⟨g,cc,eo,hcc,hlast⟩:=own_str q.row (i:=L1.length) (by simp)
  simp only [Value.slice.injEq,true_and] at eo
  obtain ⟨rfl,rfl⟩:=eo
  have hll2:(L1 ++ [x]).length=L1.length + 1:=by simp
  rw [show (L1 ++ [x]).getD L1.length ⟨#[]⟩=x by simp] at hlast
  rw [hll2] at co hcc hll q
  have q5:=q.set (os_pop q.row)
  have z:=q.sz
  have o1:IntKind.i64.wrap (((L1.length + 1:Nat):Int) - 1)=L1.length:=by rw [IntKind.wrap_i64];omega
  have o2:(0:Int)≤L1.length:=by omega
  have o3:(L1.length:Int) < ((L1.length + 1:Nat):Int):=by omega
  have o4:((L1.length + 1:Nat):Int) > 0:=by omega
  have HM1:Hid (Marks w.heap.size (wr.setCell ⟨w.heap.size + 2,0,none⟩ (.slice (some ⟨g,0,none⟩) L1.length c)) ds):=by
   refine Marks.kept ?_ ds hM
   intro k _ hk
   refine Below.heap_setCell _ _ _ _ ?_
   rintro rfl
   rw [q.box] at hk;cases hk
  have hms:lenC (wr.cell? ⟨w.heap.size + 2,0,none⟩)=L1.length + 1:=by rw [co];rfl
  rw [hms]
  simp only [List.reverse_append,List.reverse_cons,List.reverse_nil,List.nil_append,List.cons_append] at hpr
  unfold prF at hpr
  have HQ5:=hid q5
  have HP:=hid hpr
  clear q q5 hM hpr
  cases hx:(x.toList == [])
  ·have hp2:=HP.out
   rw [if_neg (by simp [hx])] at hp2
   split at hp2
   case isFalse=>cases hp2
   rename_i hbd
   go_upto_region 12 with fail
   clear co zo hlast hcc HP
   generalize wr.setCell _ _=W1 at *
   have q5:=HQ5.out
   have cl:=len_b w.heap.size out W1 q5.bd
   have z5:=q5.sz
   have hxs:x.data.toList.length=x.size:=by simp
   by_cases hout:out=[]
   ·subst hout
    rw [if_pos rfl] at hp2
    simp only [List.length_nil] at cl
    have cs:=wstr_c w.heap.size w.heap.size [] x W1 q5.bd (by simp at hbd ⊢;omega) (by omega)
    have hx:∀ w5,(Bd w.heap.size w.heap.size ([] ++ x.data.toList) w5∧BUp w.heap.size W1 w5∧Below w.heap.size W1 w5)→Marks w.heap.size w5 ds∧∃ bv5,Pq w w5 (.slice (some ⟨g,0,none⟩) L1.length c) bv5 L1 ([] ++ x.data.toList):=by
     rintro w5 ⟨g1,g2,g3⟩
     exact ⟨marks_b HM1.out g2 HQ5.out.blk,HQ5.out.wrote g1 g2 g3⟩
    have HX:=hid hx
    have HP2:=hid hp2
    clear hx q5 hp2
    go_wp2_with (first | (go_at_call 36;(with_reducible refine cl.mono ?_);rintro e w2 ⟨rfl,hw⟩;(have hw':=hw.symm);subst hw';clear hw) | (go_at_call 38;(with_reducible refine cs.mono ?_);rintro e w5 ⟨rfl,hw5⟩;(obtain ⟨m5,bv5,q5⟩:=HX.out w5 hw5);(have HM5:=hid m5);(have HQ6:=hid q5);clear hw5 m5 q5 cs cl))
    have hms5:lenC (w5.cell? ⟨w.heap.size + 2,0,none⟩)=L1.length:=by rw [row_cellsX HQ6.out.box 0];rfl
    refine ⟨⟨⟨rfl,rfl,rfl,rfl⟩,HM5.out,_,bv5,L1,_,f,n,rfl,hnL,HQ6.out,by omega,by simp at hbd ⊢;omega,HP2.out⟩,?_⟩
    rw [hms5]
    exact Nat.lt_succ_self _
   ·rw [if_neg hout] at hp2
    have j1:((out.length:Nat):Int) > 0:=by
     have:0 < out.length:=List.length_pos_iff.2 hout
     omega
    have cw:Calls Tryz.prog 37 #[.pointer (some ⟨w.heap.size,0,none⟩),.int .u8 32] W1 fun e w'=>e=.returned .nilIface∧(Bd w.heap.size w.heap.size (out ++ [32]) w'∧BUp w.heap.size W1 w'∧Below w.heap.size W1 w'):=wbyte_c w.heap.size w.heap.size out 32 W1 q5.bd (by omega) (by omega)
    have hx:∀ w5,(Bd w.heap.size w.heap.size (out ++ [32]) w5∧BUp w.heap.size W1 w5∧Below w.heap.size W1 w5)→Marks w.heap.size w5 ds∧∃ bv5,Pq w w5 (.slice (some ⟨g,0,none⟩) L1.length c) bv5 L1 (out ++ [32]):=by
     rintro w5 ⟨g1,g2,g3⟩
     exact ⟨marks_b HM1.out g2 HQ5.out.blk,HQ5.out.wrote g1 g2 g3⟩
    have HX:=hid hx
    have HP2:=hid hp2
    have HBD:Hid ((out ++ [32]).length + x.size≤140737488355328):=hid (by simp;omega)
    clear hx q5 hp2
    go_wp2_with (first | (go_at_call 36;(with_reducible refine cl.mono ?_);rintro e w2 ⟨rfl,hw⟩;(have hw':=hw.symm);subst hw';clear hw) | (go_at_call 37;(with_reducible refine cw.mono ?_);rintro e w5 ⟨rfl,hw5⟩;(obtain ⟨m5,bv5,q5⟩:=HX.out w5 hw5);(have HM5:=hid m5);(have HQ6:=hid q5);(have cs:=wstr_c w.heap.size w.heap.size (out ++ [32]) x w5 q5.bd HBD.out (by have:=q5.sz;omega));clear hw5 m5 q5 cw cl) | (go_at_call 38;(with_reducible refine cs.mono ?_);rintro e w6 ⟨rfl,hw6⟩;(have HW6:=hid hw6);clear hw6 cs))
    obtain ⟨g1,g2,g3⟩:=HW6.out
    have m6:=marks_b HM5.out g2 HQ6.out.blk
    obtain ⟨bv6,q6⟩:=HQ6.out.wrote g1 g2 g3
    have hms6:lenC (w6.cell? ⟨w.heap.size + 2,0,none⟩)=L1.length:=by rw [row_cellsX q6.box 0];rfl
    refine ⟨⟨⟨rfl,rfl,rfl,rfl⟩,m6,_,bv6,L1,_,f,n,rfl,hnL,q6,by omega,by simp;omega,HP2.out⟩,?_⟩
    rw [hms6]
    exact Nat.lt_succ_self _
  ·have hp2:=HP.out
   rw [if_pos (by simp [hx])] at hp2
   split at hp2
   case h_2=>cases hp2
   rename_i p hp
   split at hp2
   case isFalse=>cases hp2
   rename_i hbk
   have hnl:=(List.getElem?_eq_some_iff.1 hp).1
   go_upto_region 8 with fail
   clear co zo hlast hcc HP
   generalize wr.setCell _ _=W1 at *
   have q5:=HQ5.out
   have n5:=HN.out.below q5.bel HNL.out
   obtain ⟨c0,c1,c2,c3,c4,c5⟩:=nr_cells n5 n p hp
   have ct:=HTK.out p (List.mem_of_getElem? hp) W1 q5.bel
   generalize hbe:tk p=bk at *
   have cb:=backS_c
   have j6:(0:Int)≤n:=by omega
   have j7:(n:Int) < L.length:=by omega
   have j8:IntKind.i64.wrap ((n:Int) + 1)=((n + 1:Nat):Int):=by rw [IntKind.wrap_i64];omega
   unfold TK nv nodV at ct
   clear n5
   go_wp2_with (first | (go_at_call 35;(with_reducible refine ct.mono ?_);rintro e W2 ⟨kv,rfl,hB2,hO2⟩;(obtain ⟨ko,kc,rfl⟩:=slice_ofX hO2);clear ct) | (go_at_call 34;(with_reducible refine (cb _ _ _ _).mono ?_);rintro e w8 ⟨rfl,hw8⟩;(have hw':=hw8.symm);subst hw';clear hw8))
   have bX:Below W2.heap.size W2 (W2.alloc (.cells #[.slice ko bk.length kc] 55)):=(Below.refl _ W2).alloc (Nat.le_refl _) _
   have hbx:=World.alloc_heap_new W2 (.cells #[.slice ko bk.length kc] 55)
   have hB4:=hB2.trans (bX.mono hB2.size)
   have q9:=q5.below hB4
   have o9:=hO2.below bX
   have kb9:∀ k,(Value.slice ko bk.length kc).ownBlock=some k→k < W2.heap.size:=fun k e=>(hO2.lt k e).2
   have ub9:∀ k,(Value.slice (some ⟨g,0,none⟩) L1.length c).ownBlock=some k→k < W1.heap.size:=fun k e=>(q5.ub e).2.1
   have rb9:∀ k,bv.ownBlock=some k→k < W1.heap.size:=fun k e=>(q5.rb e).2.1
   have HM5:Hid (Marks w.heap.size (W2.alloc (.cells #[.slice ko bk.length kc] 55)) ds):=Marks.kept (fun k _ hk=>hB4.block k (Array.getElem?_eq_some_iff.1 hk).1) ds HM1.out
   have hz8:=q5.sz
   have hz9:=hB2.size
   have sz4:(W2.alloc (.cells #[.slice ko bk.length kc] 55)).heap.size=W2.heap.size + 1:=by simp
   clear bX HM1 hB2 hO2 hB4 HQ5 q5 c0 c1 c2 c3 c4 c5
   generalize hsb:W2.heap.size=sb at *
   generalize W2.alloc _=W4 at *
   generalize W1.heap.size=lo at *
   clear hsb
   have k0:Kt w W4 lo sb (.slice ko bk.length kc) bv out L1 bk 0 (fun k=>k=w.heap.size + 2∨(Value.slice (some ⟨g,0,none⟩) L1.length c).ownBlock=some k) W4:=
    ⟨⟨_,by simpa using q9,fun k e=>.inl (ub9 k e),fun k=>Iff.rfl⟩,hbx,o9,fun k e=>by have:=kb9 k e;omega,by omega,hz8,hz9,Nat.le_refl _,fun k e=>by have:=rb9 k e;omega,fun k hk=>hk⟩
   have hbl:bk.length≤2000000:=by omega
   have HK0:=hid k0
   have HP2:=hid hp2
   clear q9 hbx k0 o9 hp2 kb9 ub9 rb9
   refine iterD_law (backS_iter sb lo (.slice ko bk.length kc) bk hbl) eg_backS rfl (Kt w W4 lo sb (.slice ko bk.length kc) bv out L1 bk) (fun _ _=>False) ?hL ?hI ?hIx _ HK0.out ?A ?hsz ?assign ?body ?done ?stop
   case assign=>
    intro L' i hi W K hK
    rw [backS_at]
    simp only [zip_two,List.setIfInBounds_toArray,List.set_cons_succ,List.set_cons_zero]
    gi_wp2_with (simp only [Oper.semAt];go_simp)
    exact hK
   case hL=>
    intro i D W h
    obtain ⟨u,q,h1,h2⟩:=h.q
    refine ⟨⟨row_cellsX h.box 0,h.kr⟩,fun k hk=>?_⟩
    rcases (h2 k).1 hk with rfl | e
    ·have:=q.sz;omega
    ·exact (q.ub e).2.1
   case hI=>intro i D W W' h hu;exact h.upd hu
   case hIx=>intro c W W' h;exact h.elim
   case hsz=>intro i hi;rw [backS_at];rfl
   case stop=>intro c W h;exact h.elim
   case done=>
    intro D W h hD
    rw [backS_len] at h
    obtain ⟨u,q,h1,h2⟩:=h.q
    have hM9:Marks w.heap.size W ({ target:=.collected W4.heap.size,args:=#[] } :: ds):=by
     refine ⟨⟨_,rfl,by omega,hD,?_⟩,Marks.kept (fun k _ hk=>(h.keep k hk).trans hk.symm) ds HM5.out⟩
     intro d hd e
     obtain ⟨r,h1,h2⟩:=Marks.lt' ds HM5.out d hd
     rw [h1] at e
     injection e with e1 _
     injection e1 with e1
     omega
    have er:L1 ++ bk.reverse.take bk.length=L1 ++ bk.reverse:=by rw [List.take_of_length_le (by simp)]
    rw [er] at q
    have hpr9:prF tk L f (L1 ++ bk.reverse).reverse (n + 1) out=some res:=by
     rw [List.reverse_append,List.reverse_reverse]
     exact HP2.out
    have hl9:(L1 ++ bk.reverse).length≤2000000:=by simp at hbk ⊢;omega
    have hms9:lenC (W.cell? ⟨w.heap.size + 2,0,none⟩)=(L1 ++ bk.reverse).length:=by
     obtain ⟨uo,uc,rfl⟩:=slice_ofX q.row
     rw [row_cellsX q.box 0];rfl
    have H9:=hid (And.intro hM9 (And.intro q (And.intro hpr9 (And.intro hl9 hms9))))
    clear hM9 q hpr9 hl9 hms9 er h1 h2 h HK0 HP2 hD
    go_wp2
    obtain ⟨hM9,q,hpr9,hl9,hms9⟩:=H9.out
    refine ⟨⟨⟨rfl,rfl,rfl,rfl⟩,hM9,u,bv,_,out,f,n + 1,rfl,by omega,q,hl9,hol,hpr9⟩,?_⟩
    rw [hms9]
    show (L.length - ((n + 1:Nat):Int).toNat) * 2000001 + (L1 ++ bk.reverse).length < (L.length - (n:Int).toNat) * 2000001 + (L1.length + 1)
    have e1:((n + 1:Nat):Int).toNat=n + 1:=by omega
    have e2:((n:Nat):Int).toNat=n:=by omega
    rw [e1,e2]
    omega
   case body=>
    intro L' i hi D W hLe h hs hlp
    subst hLe
    rw [backS_len] at hi
    obtain ⟨u,q,h1,h2⟩:=h.q
    obtain ⟨uo,uc,rfl⟩:=slice_ofX q.row
    generalize hx:bk.getD (bk.length - 1 - i) ⟨#[]⟩=y at *
    have hll2:(L1 ++ bk.reverse.take i).length≤4000000:=by
     simp
     omega
    obtain ⟨v2,w2,hrun,ho2,hg,hk⟩:=append_str W 55 _ _ _ q.row (by have:=q.sz;omega) y hll2
    have hU:It.Upd (fun k=>(Value.slice uo (L1 ++ bk.reverse.take i).length uc).ownBlock=some k) W w2:=((It.Upd.refl _ W).alloc _).trans' ((It.Upd.refl _ _).grown hg (fun k e=>.inl e))
    have bx:w2.heap[w.heap.size + 2]? = some (.cells #[.slice uo (L1 ++ bk.reverse.take i).length uc] 55 (0,0)):=(hU.block _ (by have:=q.sz;omega) (fun e=>(q.ub e).2.2.1 rfl)).trans q.box
    have ho3:OS w2 w.heap.size v2 ((L1 ++ bk.reverse.take i) ++ [y]):=by
     unfold OS
     rw [List.length_append,List.map_append]
     exact ho2
    have fin:Hid (rndWayD (W4.heap.size + 1) W4.heap.size D W (fun W'=>∃ D',Kt w W4 lo sb (.slice ko bk.length kc) bv out L1 bk (i + 1) D' W') (fun _ _=>False) .normal { tmps:=#[],defers:=[] } (w2.setCell ⟨w.heap.size + 2,0,none⟩ v2)):=by
     have q2:=q.push ho3 hg
     have lo1:=h.lo1
     have lo2:=h.lo2
     have lt:=h.lt
     have szh:=h.sz
     have hU2:It.Upd (fun k=>k=w.heap.size + 2∨(Value.slice uo (L1 ++ bk.reverse.take i).length uc).ownBlock=some k) W (w2.setCell ⟨w.heap.size + 2,0,none⟩ v2):=(hU.mono (fun k e=>.inr e)).setCell (p:=⟨w.heap.size + 2,0,none⟩) (.inl (.inl rfl)) _
     have ne:∀ k,(k=W4.heap.size∨k=W4.heap.size + 1∨(lo≤k∧k < W4.heap.size))→¬ (k=w.heap.size + 2∨(Value.slice uo (L1 ++ bk.reverse.take i).length uc).ownBlock=some k):=by
      rintro k hk (e | e)
      ·omega
      ·rcases h1 _ e with g | g <;> omega
     refine ⟨⟨hU2.block _ (by omega) (ne _ (by omega)),hU2.block _ (by omega) (ne _ (by omega))⟩,fun k hk1 hk2=>hU2.block k hk1 (fun e=>hk2 ((h2 k).2 e)),(fun k=>k=w.heap.size + 2∨v2.ownBlock=some k),?_⟩
     refine ⟨⟨v2,?_,?_,fun k=>Iff.rfl⟩,(hU2.block _ (by omega) (ne _ (by omega))).trans h.box,owns_onX h.kr (fun k e=>hU2.block k (by have:=h.kb k e;omega) (ne k (.inr (.inr ⟨(h.kr.lt k e).1,h.kb k e⟩)))),h.kb,h.lt,h.lo1,h.lo2,Nat.le_trans h.sz hU2.size,h.rb,fun k hk=>(hU2.block k (Array.getElem?_eq_some_iff.1 (h.keep k hk)).1 ?_).trans (h.keep k hk)⟩
     ·rw [take_backS bk i hi,hx,← List.append_assoc]
      exact q2
     ·intro k e
      rcases hk with e2 | e2
      ·rw [e2] at e;exact h1 k e
      ·rw [e2] at e
       have:=Option.some.inj e
       rw [World.size_alloc] at this
       omega
     ·rintro (e | e)
      ·have:=h.keep k hk
       rw [e,q.box] at this;cases this
      ·obtain ⟨cur,hc⟩:=own_kind q.row e
       rw [h.keep k hk] at hc;cases hc
    have co:W.cell? ⟨w.heap.size + 2,0,none⟩=some (.slice uo (L1 ++ bk.reverse.take i).length uc):=row_cellsX q.box 0
    have c2:w2.cell? ⟨w.heap.size + 2,0,none⟩=some (.slice uo (L1 ++ bk.reverse.take i).length uc):=row_cellsX bx 0
    have z2:=row_thawX bx 0
    obtain ⟨vo2,vc2,rfl⟩:=slice_ofX ho2
    generalize (L1 ++ bk.reverse.take i).length=nl at *
    clear q ho2 ho3 hg hk hU bx h1 h2 h
    gi_wp2_with (first | (with_reducible refine gi_append _ (.tmp 34) (.tmp 36) 55 55 rfl _ _ (by simp [Act.eval]) (by simp [Act.eval]) _ _ hrun ?_) | (simp only [Oper.semAt];go_simp))
    exact fin.out
end Go.Proofs.YtkjaoandifednaaGreatDoor.W.Tr

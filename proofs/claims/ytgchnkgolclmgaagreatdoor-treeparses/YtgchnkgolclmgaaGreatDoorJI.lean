import Derived.Test.YtgchnkgolclmgaaGreatDoorJC
import Derived.Test.YtgchnkgolclmgaaGreatDoorJH
import Derived.Maps.AppendAt
import Derived.Deep.RegionHeld3
import Derived.Test.YtgchnkgolclmgaaGreatDoorJG
import Derived.Test.YtgchnkgolclmgaaGreatDoorShelfP
import Derived.Lib.AppendZeros
import Derived.Lib.SliceRun
import Derived.Laws.CopyOwn
import Derived.Lib.SlBuf
open List renaming replicate → aH, take_of_length_le → bY, getElem?_take → dQ, length_append → eU, getElem?_eq_some_iff → dR, length_nil → gL, take_append_of_le_length → jl, replicate_append_replicate → lH, getElem?_append_left → qV
open Nat renaming le_refl → aL, eq_zero_or_pos → gy
open Go.World renaming alloc_heap_new → dI
open Go.RowKit.Below renaming refl → gI
open Go.IntKind renaming i64 → aY, wrap_i64 → ay
open Go.Lib renaming wpList_append_run → bO
open Go.Proofs.Tryz
open List renaming getElem_toArray → aW, getElem_cons_zero → aV, getElem_cons_succ → aU, setIfInBounds_toArray → aT, set_cons_zero → aS, set_cons_succ → aR
set_option maxRecDepth 1000000
set_option maxHeartbeats 8000000
namespace Go.Proofs.YtgchnkgolclmgaaGreatDoor.W
open Go.ChangeShapes Go.WideShapes Go.RowKit Go.Shelf
set_option linter.unusedVariables false
def dA(y:Yd):Array Value:=#[.int .i64 y.t.kind,.int .i64 y.a,.string y.t.text,.int .i64 y.t.int,.int .u64 y.t.bits]
def mY(L:List Yd):List Value:=L.flatMap (λy=>(dA y).toList)
theorem bD{W W':World}{b:Nat}{e:TypeId}{size:Nat}{v:Value}{n:Nat}{xs:List Value}(ho:W.ownsRow b e size v n xs)(hk:∀k,v.ownBlock=some k->W'.heap[k]? = W.heap[k]?):W'.ownsRow b e size v n xs:=by
 refine⟨ho.1,?_⟩
 rcases ho.2 with h2|⟨g,cap,cur,rfl,h2,h3,h4⟩
 ·exact .inl h2
 ·exact .inr ⟨g,cap,cur,rfl,h2,(hk g rfl).trans h3,h4⟩
theorem aI{W:World}{b:Nat}{e:TypeId}{size:Nat}{v:Value}{n:Nat}{xs:List Value}(h:W.ownsRow b e size v n xs):∃o cap,v=.slice o n cap:=by
 rcases h.2 with⟨rfl,rfl⟩|⟨g,cap,cur,rfl,_⟩
 ·exact⟨none,0,rfl⟩
 ·exact⟨_,cap,rfl⟩
end Go.Proofs.YtgchnkgolclmgaaGreatDoor.W
namespace Go.Proofs.YtgchnkgolclmgaaGreatDoor.W.Tr
open Go.ChangeShapes Go.WideShapes Go.RowKit Go.Shelf
set_option linter.unusedVariables false
set_option linter.unusedSimpArgs false
theorem DC:(prog.info? 9).map (λi=>(i.zero,i.size,i.bytes))=some (some (.string ⟨#[]⟩),1,16):=by kernel_rfl
theorem qY:prog.underlying 86=some (.slice 9):=by kernel_rfl
def OS(W:World)(B:Nat)(v:Value)(ts:List ByteArray):Prop:=W.ownsRow B 9 1 v ts.length (ts.map Value.string)
theorem OS.below{W W':World}{B:Nat}{v:Value}{ts:List ByteArray}(h:OS W B v ts)(hB:Below W.heap.size W W'):OS W' B v ts:=bD h (λk e=>hB.block k (h.lt k e).2)
theorem OS.base{W:World}{B C:Nat}{v:Value}{ts:List ByteArray}(h:OS W B v ts)(hC:C<=B):OS W C v ts:=by
 refine⟨h.1,?_⟩
 rcases h.2 with⟨h1,h2⟩|⟨g,cap,cur,h1,h2,h3⟩
 ·exact .inl ⟨h1,h2⟩
 ·exact .inr ⟨g,cap,cur,h1,Nat.le_trans hC h2,h3⟩
theorem eY{W:World}{B b:Nat}{l:List Value}{ts:List ByteArray}(hl:l=ts.map Value.string)(hb:W.heap[b]? = some (.cells l.toArray 9 (0,0)))(hB:B<=b)(h0:ts.length<=4000000):OS W B (.slice (some ⟨b,0,none⟩) ts.length ts.length) ts:=by
 subst hl
 refine⟨by simp,.inr ⟨b,ts.length,_,rfl,hB,hb,aL _,by unfold maxLen;omega,by simp,by rw[Nat.mul_one];exact bY (by simp)⟩⟩
theorem qJ(z:Value)(n:Nat)(hz:z.cells = #[z]):Builtin.zeroCells z.cells n=(aH n z).toArray:=by
 rw[hz]
 apply Array.ext
 ·simp[Builtin.zeroCells]
 ·intro i h1 h2
  simp[Builtin.zeroCells,Nat.mod_one]
theorem M0(w:World)(ty:TypeId)(m:Nat)(hm:0<m)(hm2:m<=4000000):∃cap w',(Builtin.append_ #[86,3] ty #[.slice none 0 0,.int .i64 (m:Int)]).run prog w=.ok (.slice (some ⟨w.heap.size,0,none⟩) m cap) w'/\w'.ownsRow w.heap.size 9 1 (.slice (some ⟨w.heap.size,0,none⟩) 0 cap) 0 []/\w.grownBy w' none/\m<=cap:=by
 obtain⟨i0,hi,hz0,hz1,hz2⟩:=info_parts DC
 have hrun:=Lib.run_append_nil_zeros (P:=prog) w 86 3 ty 9 i0 (.string ⟨#[]⟩) .i64 .i64 qY underlying3 hi hz0 m hm (by omega) (by omega) (by rw[hz2];omega)
 refine⟨_,_,hrun,⟨by simp,.inr ⟨w.heap.size,_,_,rfl,aL _,dI w.drew _,Nat.zero_le _,grownCap_le_maxLen w _ _ _ (by unfold maxLen;omega),?_,by simp⟩⟩,⟨rfl,rfl,rfl,?_,λk hk _=>Below.heap_alloc w.drew _ k hk⟩,?_⟩
 ·have h1:(Value.string ⟨#[]⟩).cells = #[.string ⟨#[]⟩]:=rfl
  rw[qJ _ _ h1,qJ _ _ h1]
  have:=grownCap_ge w m 0 9
  simp;omega
 ·show w.heap.size<=(w.drew.alloc _).heap.size;simp
 ·exact grownCap_ge w m 0 9
theorem M4(W:World)(m:Nat)(hm:0<m)(hm2:m<=4000000):Calls prog 127 #[.slice none 0 0,.int .i64 m] W λe w'=>∃v,e=.returned v/\Below W.heap.size W w'/\w'.ownsRow W.heap.size 9 1 v 0 []:=by
 obtain⟨cap,w1,hrun,hown,hgr,hcap⟩:=M0 W 86 m hm hm2
 have h1:¬ ((m:Int)<0):=by omega
 have h3:aY.wrap (m:Int)=m:=by rw[ay];omega
 have h4:(m:Int)>0:=by omega
 have hB:Below W.heap.size W w1:=((It.bL.refl (λ_=>False) W).grown hgr (λk e=>by cases e)).below (aL _) (λk e=>e.elim)
 go_enter func127,ntmps127
 go_wp2_with (at_builtin;refine bO _ rfl (.tmp 20) (.tmp 21) 86 3 rfl _ _ (by simp[Act.eval]) (by simp[Act.eval]) _ _ hrun ?_)
 go_ret
 exact⟨_,rfl,hB,hown⟩
theorem nM(w:World)(B:Nat)(ty:TypeId)(hB:B<=w.heap.size)(v:Value)(ts:List ByteArray)(hown:OS w B v ts)(vs:Value)(us:List ByteArray)(hs:OS w 0 vs us)(hn:ts.length+us.length<=4000000) :
  ∃v' w',(Builtin.append_ #[86,86] ty #[v,vs]).run prog w=.ok v' w'/\OS w' B v' (ts++us)/\w.grownBy w' v.ownBlock:=by
 obtain⟨i0,hi,hz0,hz1,hz2⟩:=info_parts DC
 rcases hs.2 with⟨rfl,h0⟩|⟨sg,aAF,aAe,rfl,_,sh,snc,_,_,stk⟩
 ·have h0:us=[]:=List.eq_nil_of_length_eq_zero h0
  subst h0
  refine⟨v,w,?_,by simpa using hown,⟨rfl,rfl,rfl,aL _,λk _ _=>rfl⟩⟩
  rcases hown.2 with⟨rfl,h1⟩|⟨g,cap',cur,rfl,_,_,hnc,_⟩
  ·simp[Builtin.append_,run_underlying qY,sizeOf,typeInfo,hi,Builtin.lenOf,Builtin.firstCells]
  ·simp[Builtin.append_,run_underlying qY,sizeOf,typeInfo,hi,Builtin.lenOf,Builtin.firstCells,hnc,storeCells]
 ·have h1:∀j u,(us.map Value.string)[j]? = some u->w.cell? ((⟨sg,0,none⟩:Addr).add j)=some u:=by
   intro j u hj
   have e1:((⟨sg,0,none⟩:Addr).add j)=⟨sg,j,none⟩:=by simp[Addr.add];intro e;exact e.symm
   have hj2:j<us.length:=by
    have:=(dR.1 hj).1
    simpa using this
   rw[e1,cell_of_row _ sg j _ _ _ sh,<- hj,<- stk,dQ,if_pos (by omega),Array.getElem?_toList]
  have h2:∀u ∈ us.map Value.string,u.oneCell'=true:=by
   intro u hu
   obtain⟨x,_,rfl⟩:=List.mem_map.1 hu
   rfl
  obtain⟨v',w',hrun,ho,hg,_⟩:=run_append_own w B 86 ty 9 i0 (.string ⟨#[]⟩) 1 16 qY hi hz0 hz1 hz2 rfl (by omega) v ts.length _ hown ⟨sg,0,none⟩ us.length aAF (us.map Value.string) (by simp) h1 h2 (by unfold maxLen;omega) (by omega) hB
  refine⟨v',w',hrun,?_,hg⟩
  unfold OS
  rw[eU,List.map_append]
  exact ho
theorem lG{W w w':World}{v:Value}{ts:List ByteArray}(hB:Below W.heap.size W w)(h:OS w W.heap.size v ts)(hg:w.grownBy w' v.ownBlock):Below W.heap.size W w':=
 hB.trans (((It.bL.refl (λk=>W.heap.size<=k) w).grown hg (λk e=>.inl (h.lt k e).1)).below hB.size (λk e=>e))
theorem Ja(W:World)(gb cap:Nat)(v1 v2:Value)(r1 r2:List ByteArray)(hc0:W.cell? ⟨gb,0,none⟩=some v1)(hc1:W.cell? ⟨gb,1,none⟩=some v2)(h1:OS W 0 v1 r1)(h2:OS W 0 v2 r2)(hl:r1.length+r2.length<=4000000)(hp:0<r1.length+r2.length) :
  Calls prog 90 #[.slice (some ⟨gb,0,none⟩) 2 cap] W λe w'=>∃v,e=.returned v/\Below W.heap.size W w'/\OS w' W.heap.size v (r1++r2):=by
 have cg:=M4 W (r1.length+r2.length) hp hl
 obtain⟨o1,TU,rfl⟩:=aI h1
 obtain⟨o2,cap2,rfl⟩:=aI h2
 have HL:=hid hl
 have H1:=hid h1
 have H2:=hid h2
 generalize hn1:r1.length=n1 at *
 generalize hn2:r2.length=n2 at *
 have a1:aY.wrap (n1:Int)=(n1:Int):=by rw[ay];omega
 have a2:aY.wrap ((n1:Int)+(n2:Int))=(n1:Int)+(n2:Int):=by rw[ay];omega
 have b1:¬ (n1:Int)<0:=by omega
 have b2:¬ (n1:Int)+(n2:Int)<0:=by omega
 rw[show ((n1+n2:Nat):Int)=(n1:Int)+(n2:Int) by omega] at cg
 have N1:=hid hn1
 have N2:=hid hn2
 clear hn1 hn2 hl h1 h2
 go_enter func90,ntmps90
 go_wp2
 refine wp_loop_rounds 3 ?_
 rw[rounds_succ]
 go_wp2
 rw[rounds_succ]
 go_wp2
 rw[rounds_succ]
 go_wp2_with (go_at_call 127;(with_reducible refine cg.mono ?_);rintro e w4 ⟨v,rfl,hB4,hown⟩;clear cg)
 have hown0:OS w4 W.heap.size v []:=hown
 obtain⟨v5,w5,MO,hown5,hg5⟩:=nM w4 W.heap.size 86 hB4.size v [] hown0 (.slice o1 n1 TU) r1 (H1.out.below hB4) (by rw[N1.out];have:=HL.out;simp;omega)
 have uS:=lG hB4 hown0 hg5
 obtain⟨v6,w6,MN,hown6,QW⟩:=nM w5 W.heap.size 86 uS.size v5 _ hown5 (.slice o2 n2 cap2) r2 (H2.out.below uS) (by simp only[eU,gL];rw[N1.out,N2.out];have:=HL.out;omega)
 have MZ:=lG uS hown5 QW
 have d0:=It.eZ hB4 hc0
 have d1:=It.eZ uS hc1
 have fin:Hid (OS w6 W.heap.size v6 (r1++r2)):=hid (by simpa using hown6)
 have XO:=hid MZ
 obtain⟨p0,q0,hv0⟩:=aI hown0
 obtain⟨p5,q5,hv5⟩:=aI hown5
 subst hv0
 subst hv5
 clear hown hown0 hown5 hown6 hg5 QW uS MZ hB4 H1 H2
 refine wp_loop_rounds 3 ?_
 rw[rounds_succ]
 go_wp2_with (at_builtin;refine bO _ rfl (.tmp 31) (.tmp 32) 86 86 rfl _ _ (by simp[Act.eval]) (by simp[Act.eval]) _ _ MO ?_)
 rw[rounds_succ]
 go_wp2_with (at_builtin;refine bO _ rfl (.tmp 31) (.tmp 32) 86 86 rfl _ _ (by simp[Act.eval]) (by simp[Act.eval]) _ _ MN ?_)
 rw[rounds_succ]
 go_wp2
 go_ret
 exact⟨_,rfl,XO.out,fin.out⟩
theorem J9(W:World)(gb cap:Nat)(v1 v2 v3:Value)(r1 r2 r3:List ByteArray)(hc0:W.cell? ⟨gb,0,none⟩=some v1)(hc1:W.cell? ⟨gb,1,none⟩=some v2)(hc2:W.cell? ⟨gb,2,none⟩=some v3)(h1:OS W 0 v1 r1)(h2:OS W 0 v2 r2)(h3:OS W 0 v3 r3)(hl:r1.length+r2.length+r3.length<=4000000)(hp:0<r1.length+r2.length+r3.length) :
  Calls prog 90 #[.slice (some ⟨gb,0,none⟩) 3 cap] W λe w'=>∃v,e=.returned v/\Below W.heap.size W w'/\OS w' W.heap.size v (r1++r2++r3):=by
 have cg:=M4 W (r1.length+r2.length+r3.length) hp hl
 obtain⟨o1,TU,rfl⟩:=aI h1
 obtain⟨o2,cap2,rfl⟩:=aI h2
 obtain⟨o3,aA5,rfl⟩:=aI h3
 have HL:=hid hl
 have H1:=hid h1
 have H2:=hid h2
 have H3:=hid h3
 generalize hn1:r1.length=n1 at *
 generalize hn2:r2.length=n2 at *
 generalize Ox:r3.length=n3 at *
 have a1:aY.wrap (n1:Int)=(n1:Int):=by rw[ay];omega
 have a2:aY.wrap ((n1:Int)+(n2:Int))=(n1:Int)+(n2:Int):=by rw[ay];omega
 have a3:aY.wrap ((n1:Int)+(n2:Int)+(n3:Int))=(n1:Int)+(n2:Int)+(n3:Int):=by rw[ay];omega
 have b1:¬ (n1:Int)<0:=by omega
 have b2:¬ (n1:Int)+(n2:Int)<0:=by omega
 have b3:¬ (n1:Int)+(n2:Int)+(n3:Int)<0:=by omega
 rw[show ((n1+n2+n3:Nat):Int)=(n1:Int)+(n2:Int)+(n3:Int) by omega] at cg
 have N1:=hid hn1
 have N2:=hid hn2
 have N3:=hid Ox
 clear hn1 hn2 Ox hl h1 h2 h3
 go_enter func90,ntmps90
 go_wp2
 refine wp_loop_rounds 4 ?_
 rw[rounds_succ]
 go_wp2
 rw[rounds_succ]
 go_wp2
 rw[rounds_succ]
 go_wp2
 rw[rounds_succ]
 go_wp2_with (go_at_call 127;(with_reducible refine cg.mono ?_);rintro e w4 ⟨v,rfl,hB4,hown⟩;clear cg)
 have hown0:OS w4 W.heap.size v []:=hown
 obtain⟨v5,w5,MO,hown5,hg5⟩:=nM w4 W.heap.size 86 hB4.size v [] hown0 (.slice o1 n1 TU) r1 (H1.out.below hB4) (by rw[N1.out];have:=HL.out;simp;omega)
 have uS:=lG hB4 hown0 hg5
 obtain⟨v6,w6,MN,hown6,QW⟩:=nM w5 W.heap.size 86 uS.size v5 _ hown5 (.slice o2 n2 cap2) r2 (H2.out.below uS) (by simp only[eU,gL];rw[N1.out,N2.out];have:=HL.out;omega)
 have MZ:=lG uS hown5 QW
 obtain⟨v7,w7,Vg,QT,hg7⟩:=nM w6 W.heap.size 86 MZ.size v6 _ hown6 (.slice o3 n3 aA5) r3 (H3.out.below MZ) (by simp only[eU,gL];rw[N1.out,N2.out,N3.out];have:=HL.out;omega)
 have hB7:=lG MZ hown6 hg7
 have d0:=It.eZ hB4 hc0
 have d1:=It.eZ uS hc1
 have d2:=It.eZ MZ hc2
 have fin:Hid (OS w7 W.heap.size v7 (r1++r2++r3)):=hid (by simpa using QT)
 have HB7:=hid hB7
 obtain⟨p0,q0,hv0⟩:=aI hown0
 obtain⟨p5,q5,hv5⟩:=aI hown5
 obtain⟨p6,q6,hv6⟩:=aI hown6
 subst hv0
 subst hv5
 subst hv6
 clear hown hown0 hown5 hown6 QT hg5 QW hg7 uS MZ hB7 hB4 H1 H2 H3
 refine wp_loop_rounds 4 ?_
 rw[rounds_succ]
 go_wp2_with (at_builtin;refine bO _ rfl (.tmp 31) (.tmp 32) 86 86 rfl _ _ (by simp[Act.eval]) (by simp[Act.eval]) _ _ MO ?_)
 rw[rounds_succ]
 go_wp2_with (at_builtin;refine bO _ rfl (.tmp 31) (.tmp 32) 86 86 rfl _ _ (by simp[Act.eval]) (by simp[Act.eval]) _ _ MN ?_)
 rw[rounds_succ]
 go_wp2_with (at_builtin;refine bO _ rfl (.tmp 31) (.tmp 32) 86 86 rfl _ _ (by simp[Act.eval]) (by simp[Act.eval]) _ _ Vg ?_)
 rw[rounds_succ]
 go_wp2
 go_ret
 exact⟨_,rfl,HB7.out,fin.out⟩
theorem Lr(v:Value)(n:Nat):(madeCells #[v] n).toList=aH n v:=by
 apply List.ext_getElem?
 intro i
 by_cases hi:i<n
 ·rw[List.getElem?_replicate,if_pos hi]
  simp[madeCells,hi,Nat.mod_one]
 ·rw[List.getElem?_replicate,if_neg hi]
  simp[madeCells,hi]
def yI(w:World)(g m:Nat)(F:List Value):Prop:=w.heap[g]? = some (.cells (F.take m++aH (F.length-m) (Value.string ⟨#[]⟩)).toArray 9 (0,0))
theorem Ir(w:World)(F:List Value)(hn:F.length<=4000000):∃w',(Instr.makeSlice 86 (.int .i64 (F.length:Int)) (.int .i64 (F.length:Int))).run prog w=.ok (.slice (some ⟨w.heap.size,0,none⟩) F.length F.length) w'/\yI w' w.heap.size 0 F/\Below w.heap.size w w'/\w.heap.size<w'.heap.size:=by
 obtain⟨i0,hi,hz0,hz1,hz2⟩:=info_parts DC
 obtain⟨w',h1,h2,h3⟩:=run_makeSlice_full (P:=prog) w w.heap.size 86 9 i0 (Value.string ⟨#[]⟩) 1 qY hi hz0 hz1 .i64 .i64 F.length (by omega) (by rw[hz2];omega) (by simp[maxLen];omega) (aL _)
 have e:(madeCells (Value.string ⟨#[]⟩).cells (F.length*1)).toList=aH F.length (Value.string ⟨#[]⟩):=by
  rw[Nat.mul_one];exact Lr _ F.length
 rw[e] at h2
 have hlt:=(h2.lt _ rfl).2
 have hU:It.bL (λ_=>False) w w':=(It.bL.refl (λ_=>False) w).grown h3 (λk e=>by cases e)
 refine⟨w',h1,?_,hU.below (aL _) (λk e=>e.elim),hlt⟩
 rcases h2.2 with⟨hv,_⟩|⟨g,cap,cur,hv,_,hg,_,_,hsz,htk⟩
 ·cases hv
 ·cases hv
  unfold yI
  rw[hg]
  have:cur.toList=aH F.length (Value.string ⟨#[]⟩):=by
   rw[<- htk,bY (by rw[Array.length_toList,hsz];exact aL _)]
  rw[List.take_zero,List.nil_append,Nat.sub_zero,<- this]
theorem EJ(F:List Value)(m c:Nat)(hm:m<=F.length)(hc:c<=F.length-m):((F.take m++aH (F.length-m) (Value.string ⟨#[]⟩)).toArray.toList.take m++(F.drop m).take c++(F.take m++aH (F.length-m) (Value.string ⟨#[]⟩)).toArray.toList.drop (m+c))=F.take (m+c)++aH (F.length-(m+c)) (Value.string ⟨#[]⟩):=by
 rw[List.toList_toArray]
 have e1:(F.take m++aH (F.length-m) (Value.string ⟨#[]⟩)).take m=F.take m:=by
  rw[jl (by simp;omega),bY (by simp;omega)]
 have e2:(F.take m++aH (F.length-m) (Value.string ⟨#[]⟩)).drop (m+c)=aH (F.length-(m+c)) (Value.string ⟨#[]⟩):=by
  rw[List.drop_append,List.drop_of_length_le (by simp;omega),List.nil_append,List.length_take,Nat.min_eq_left hm,Nat.add_sub_cancel_left,List.drop_replicate]
  congr 1
  omega
 rw[e1,e2,<- List.take_add]
theorem zQ(w:World)(g m:Nat)(F:List Value)(hm:m<=F.length)(hr:yI w g m F)(ty:TypeId)(a:Addr)(sl sc dc c:Nat)(hcc:c=min sl (F.length-m))(h1:∀u ∈ F,u.oneCell'=true)(hsrc:∀j v,((F.drop m).take c)[j]? = some v->w.cell? (a.add j)=some v) :
  ∃w',(Builtin.copy_ #[86,86] ty #[.slice (some ⟨g,m,none⟩) (F.length-m) dc,.slice (some a) sl sc]).run prog w=.ok (.int .i64 (c:Int)) w'/\yI w' g (m+c) F/\It.bL (λk=>k=g) w w':=by
 obtain⟨i0,hi,hz0,hz1,hz2⟩:=info_parts DC
 have hc1:c<=F.length-m:=by omega
 have hl:((F.drop m).take c).length=c:=by simp;omega
 have hrun:=run_copy_row (P:=prog) w 86 86 ty 9 g m (F.length-m) dc a sl sc _ 9 ((F.drop m).take c) qY (by rw[hi];simp[hz1]) hr (by rw[hl];exact hcc) hsrc (by simp;omega) (by intro v hv;exact h1 v (List.mem_of_mem_drop (List.mem_of_mem_take hv)))
 rw[hl] at hrun
 refine⟨_,hrun,?_,⟨rfl,rfl,rfl,by rw[size_setRow];exact aL _,λk hk hn=>setRow_other w g k _ hn⟩⟩
 unfold yI
 rw[setRow_heap w g _ _ _ _ hr]
 rw[EJ F m c hm hc1]
def lU(n:Nat)(xs:List Value):List Value:=(aH n xs).flatten
theorem vw(n:Nat)(xs:List Value):(lU n xs).length=n*xs.length:=by simp[lU]
theorem IC(n k:Nat)(xs:List Value)(hk:k<=n):(lU n xs).drop (k*xs.length)=lU (n-k) xs:=by
 have e:lU n xs=lU k xs++lU (n-k) xs:=by
  unfold lU
  rw[<- List.flatten_append,lH,Nat.add_sub_cancel' hk]
 rw[e,List.drop_left' (vw k xs)]
theorem Kw(n k c:Nat)(xs:List Value)(hk:k<=n)(hc:c<=(n-k)*xs.length):(lU (n-k) xs).take c=(lU n xs).take c:=by
 have e:lU n xs=lU (n-k) xs++lU k xs:=by
  unfold lU
  rw[<- List.flatten_append,lH,Nat.sub_add_cancel hk]
 rw[e,jl (by rw[vw];exact hc)]
theorem NC{w:World}{g m:Nat}{F:List Value}(hr:yI w g m F){j:Nat}{v:Value}(hj:j<m)(hm:m<=F.length)(h:F[j]? = some v):w.cell? ⟨g,j,none⟩=some v:=by
 rw[cell_of_row w g j _ _ (0,0) hr,List.getElem?_toArray,qV (by simp;omega),dQ,if_pos hj]
 exact h
theorem N7(g j:Nat):((⟨g,0,none⟩:Addr).add j)=⟨g,j,none⟩:=by unfold Addr.add;split <;> simp_all
theorem CJ(W:World)(gb cap q n N:Nat)(xs:List Value)(hx:xs.length=q)(hq:0<q)(hqb:q<=4)(hN:N=n*q)(hn:N<=4000000)(h1:∀u ∈ xs,u.oneCell'=true)(hc:∀j v,xs[j]? = some v->W.cell? ⟨gb,j,none⟩=some v) :
  Calls prog 126 #[.slice (some ⟨gb,0,none⟩) q cap,.int .i64 n] W λe w'=>e=.returned (.slice (some ⟨W.heap.size,0,none⟩) N N)/\Below W.heap.size W w'/\yI w' W.heap.size N (lU n xs):=by
 have hnN:n<=N:=by rw[hN];exact Nat.le_mul_of_pos_right _ hq
 have hqN:n=0\/q<=N:=by
  rcases gy n with h|h
  ·exact .inl h
  ·exact .inr (by rw[hN];exact Nat.le_mul_of_pos_left _ h)
 have b1:¬ (n:Int)<0:=by omega
 have b2:IntKind.u64.wrap (n:Int)=n:=by rw[IntKind.wrap_u64];omega
 have b3:¬ (N:Int)>9223372036854775807:=by omega
 have b4:aY.wrap (N:Int)=N:=by rw[ay];omega
 have b5:IntKind.u64.wrap (q:Int)=q:=by rw[IntKind.wrap_u64];omega
 have cm:Calls prog 151 #[.int .u64 q,.int .u64 n] W λe w'=>e=.returned (.tuple #[.int .u64 0,.int .u64 N])/\w'=W:=by
  have h:=Tryz.bits_Mul q n (by omega) (by omega) W
  rw[show q*n=N by rw[hN,Nat.mul_comm],Nat.div_eq_of_lt (by omega),Nat.mod_eq_of_lt (by omega)] at h
  exact h
 obtain⟨F,hF⟩:∃F,lU n xs=F:=⟨_,rfl⟩
 have XY:F.length=N:=by rw[<- hF,vw,hx,hN]
 have hF1:∀u ∈ F,u.oneCell'=true:=by
  intro u hu
  rw[<- hF] at hu
  simp only[lU,List.mem_flatten,List.mem_replicate] at hu
  obtain⟨l,⟨_,rfl⟩,hu⟩:=hu
  exact h1 u hu
 obtain⟨W1,hmk,hr,hB1,hl1⟩:=Ir W F (by omega)
 rw[XY] at hmk
 obtain⟨W2,hcp,hr2,mE⟩:=zQ W1 W.heap.size 0 F (Nat.zero_le _) hr 3 ⟨gb,0,none⟩ q cap N (min q (F.length-0)) rfl hF1 (by
  intro j v hj
  rw[N7]
  refine It.eZ hB1 (hc j v ?_)
  have hjq:j<min q (F.length-0):=by
   have:=(dR.1 hj).1
   simp at this
   omega
  rw[dQ,if_pos hjq,List.drop_zero] at hj
  rw[<- hj,<- hF]
  rcases gy n with h|h
  ·rw[<- hF,h] at hj
   simp[lU] at hj
  ·obtain⟨n',rfl⟩:∃n',n=n'+1:=⟨n-1,by omega⟩
   unfold lU
   rw[List.replicate_succ,List.flatten_cons,qV (by omega)])
 have hB2:Below W.heap.size W W2:=hB1.trans (mE.below hB1.size (λk e=>by rw[e];exact aL _))
 simp only[Nat.zero_add,Nat.sub_zero,XY] at hr2 hcp
 generalize hm1:min q N=m1 at hr2 hcp
 have HM:Hid ((m1=0->N=0)/\m1<=N/\(m1=N\/∃k,k<=n/\m1=k*q)):=by
  refine⟨by omega,by omega,?_⟩
  rcases Nat.lt_or_ge q N with h|h
  ·refine .inr ⟨1,?_,by omega⟩
   rcases hqN with h'|h'
   ·rw[h'] at hN;omega
   ·rcases gy n with h2|h2
    ·rw[h2] at hN;omega
    ·exact h2
  ·exact .inl (by omega)
 generalize hG:W.heap.size=G at *
 have HF:=hid hF
 have HN:=hid hN
 have HX:=hid hx
 have HL:=hid XY
 have H1:=hid hF1
 have HQ:=hid hnN
 clear hm1 hr mE hc hB1 hF hN hx XY hF1 hnN hqN h1
 go_enter func126,ntmps126
 go_upto_region 7 with(go_at_call 151;(with_reducible refine cm.mono ?_);rintro e w' ⟨rfl,hw⟩;(have hw':=hw.symm);subst hw';clear hw)
 go_wp2_with (at_builtin;refine Lib.wpList_copy_run _ rfl (.tmp 31) (.tmp 32) 86 86 rfl _ _ (by simp[Act.eval]) (by simp[Act.eval]) hcp ?_)
 clear hcp hmk cm
 go_loopw [8] (λii wr=>∃m:Nat,m<=N/\(m=0->N=0)/\ii=.int .i64 m/\Below G W wr/\yI wr G m F/\(m=N\/∃k,k<=n/\m=k*q)) (λii _=>N-(intOf ii).toNat)
 case atStart=>exact⟨m1,HM.out.2.1,HM.out.1,rfl,hB2,hr2,HM.out.2.2⟩
 case round=>
  obtain⟨m,hm,hm0,rfl,hB,hr,hk⟩:=hrel
  clear hr2 hB2 HM
  by_cases hlt:m<N
  ·have j1:(m:Int)<N:=by omega
   go_upto_region 9 with fail
   have hmp:0<m:=by omega
   obtain⟨c,hcc⟩:∃c,c=min m (N-m):=⟨_,rfl⟩
   have hcl:c<=N-m:=by omega
   have hcp:0<c:=by omega
   obtain⟨k,hkn,hkm⟩:∃k,k<=n/\m=k*q:=by
    rcases hk with h|h
    ·omega
    ·exact h
   have hpre:(F.drop m).take c=F.take c:=by
    have e1:=IC n k xs hkn
    rw[HF.out,HX.out,<- hkm] at e1
    rw[e1,Kw n k c xs hkn,HF.out]
    rw[HX.out,Nat.sub_mul,<- HN.out,<- hkm]
    exact hcl
   obtain⟨w',hcp',hr',hU'⟩:=zQ wr.drew G m F (by have:=HL.out;omega) hr 3 ⟨G,0,none⟩ m N (N-m) c (by rw[HL.out];exact hcc) H1.out (by
    intro j v hj
    have hjm:j<c:=by
     have:=(dR.1 hj).1
     simp at this
     omega
    rw[hpre,dQ,if_pos hjm] at hj
    rw[N7]
    exact NC (w:=wr.drew) hr (by omega) (by have:=HL.out;omega) hj)
   rw[HL.out] at hcp'
   have XW:It.bL (λk=>k=G) wr w':=⟨hU'.os,hU'.tape,hU'.output,hU'.size,hU'.block⟩
   have hB':Below G W w':=hB.trans (XW.below (by have:=hB.size;omega) (λk e=>by omega))
   have g1:(0:Int)<=m:=by omega
   have g2:(m:Int)<=N:=by omega
   have g3:¬N=m:=by omega
   have g4:aY.wrap ((m:Int)+(c:Int))=((m+c:Nat):Int):=by rw[ay];omega
   have HK:Hid (m+c=N\/∃k,k<=n/\m+c=k*q):=by
    rcases Nat.lt_or_ge (N-m) m with h|h
    ·exact .inl (by omega)
    ·refine .inr ⟨k+k,?_,by rw[Nat.add_mul,<- hkm];omega⟩
     have h3:(k+k)*q<=n*q:=by rw[Nat.add_mul,<- hkm,<- HN.out];omega
     exact Nat.le_of_mul_le_mul_right h3 hq
   have HR:=hid hr'
   have HB:=hid hB'
   have HC:=hid (And.intro hcl hcp)
   clear hU' XW hr hr' hB hB' hcc hcl hcp hm0 hpre hk hkm hkn H1 HF HX
   refine wp_region_held_drew (S:=λ_=>True) (by kernel_rfl) trivial ?_
   intro hS
   (refine It.nH 0 ?_ rfl (by kernel_rfl) (λ_ _ _ h=>h) (Or.inl ⟨by rfl,?_⟩) trivial ?_);rotate_left;(focus (intro w' hSw;go_simp;(try with_reducible rfl)));(try simp only[Act.put,List.getElem_toArray,List.getElem_cons_zero,List.setIfInBounds_toArray,List.set_cons_zero,List.set_cons_succ])
   iterate 2 ((refine It.nH 1 ?_ rfl (by kernel_rfl) (λ_ _ _ h=>h) (Or.inl ⟨by rfl,?_⟩) trivial ?_);rotate_left;(focus (intro w' hSw;go_simp;(try with_reducible rfl)));(try simp only[Act.put,aW,aV,aU,aT,aS,aR]))
   iterate 2 ((refine It.nH 4 ?_ rfl (by kernel_rfl) (λ_ _ _ h=>h) (Or.inl ⟨by rfl,?_⟩) trivial ?_);rotate_left;(focus (intro w' hSw;go_simp;(try with_reducible rfl)));(try simp only[Act.put,aW,aV,aU,aT,aS,aR]))
   (refine It.nH 3 ?_ rfl (by kernel_rfl) (λ_ _ _ h=>h) (Or.inl ⟨by rfl,?_⟩) trivial ?_);rotate_left;(focus (intro w' hSw;go_simp;(try with_reducible rfl)));(try simp only[Act.put,aW,aV,aU,aT,aS,aR])
   (refine It.nH 6 ?_ rfl (by kernel_rfl) (λ_ _ _ h=>h) (Or.inl ⟨by rfl,?_⟩) trivial ?_);rotate_left;(focus (intro w' hSw;go_simp;(try with_reducible rfl)));(try simp only[Act.put,aW,aV,aU,aT,aS,aR])
   refine wpAnyH_ready (rs:=[7]) (by kernel_rfl) (by simp) ?_
   refine AllReadyH.cons rfl (λK hK=>?_) AllReadyH.nil
   rw[if_pos (by rfl)]
   refine Lib.wp_copy_run _ (.tmp 41) (.tmp 44) 86 86 rfl (.slice (some ⟨G,m,none⟩) (N-m) (N-m)) (.slice (some ⟨G,0,none⟩) m N) (by rfl) (by rfl) hcp' ?_
   refine hK.out _ _ trivial (λ_=>?_)
   clear hK K hcp'
   (try simp only[Act.put,aW,aV,aU,aT,aS,aR])
   iterate 2 ((refine It.nH 8 ?_ rfl (by kernel_rfl) (λ_ _ _ h=>h) (Or.inl ⟨by rfl,?_⟩) trivial ?_);rotate_left;(focus (intro w' hSw;go_simp;(try with_reducible rfl)));(try simp only[Act.put,aW,aV,aU,aT,aS,aR]))
   refine wpAnyH_done (by kernel_rfl) ?_ _
   go_wp2
   go_roundw
   case rel=>exact⟨m+c,by have:=HC.out;omega,λe=>by omega,by go_num,HB.out,HR.out,HK.out⟩
   case measure=>show N-((m+c:Nat):Int).toNat<N-(m:Int).toNat;have:=HC.out;omega
  ·have j1:¬ (m:Int)<N:=by omega
   have e:m=N:=by omega
   subst e
   go_wp2
   go_ret
   exact⟨rfl,hB,by rw[HF.out];exact hr⟩
def tK:ByteArray:=⟨#[]⟩
def kL(n:Nat)(ts:List ByteArray):List ByteArray:=(aH n ts).flatten
theorem mZ(n:Nat)(ts:List ByteArray):(kL n ts).length=n*ts.length:=by simp[kL]
theorem Ky(n:Nat)(ts:List ByteArray):lU n (ts.map Value.string)=(kL n ts).map Value.string:=by
 unfold lU kL
 rw[List.map_flatten,List.map_replicate]
theorem Kz{w:World}{B g n N:Nat}{ts:List ByteArray}(h:yI w g N (lU n (ts.map Value.string)))(hN:N=n*ts.length)(hB:B<=g)(hb:N<=4000000):OS w B (.slice (some ⟨g,0,none⟩) N N) (kL n ts):=by
 have e:(kL n ts).length=N:=by rw[mZ,hN]
 unfold yI at h
 rw[Ky] at h
 have h2:=eY (W:=w) (B:=B) (b:=g) (ts:=kL n ts) (l:=(kL n ts).map Value.string) rfl (by
  rw[h,bY (by simp[e]),show (((kL n ts).map Value.string).length-N)=0 by simp[e]]
  simp) hB (by omega)
 rw[e] at h2
 exact h2
theorem Ci(ts:List ByteArray):∀u ∈ ts.map Value.string,u.oneCell'=true:=by
 intro u hu
 obtain⟨x,_,rfl⟩:=List.mem_map.1 hu
 rfl
theorem Ad(n:Nat)(hn:n<=1000000)(w:World):Calls prog 89 #[.int .i64 n] w λe w'=>∃v,e=.returned v/\Below w.heap.size w w'/\OS w' w.heap.size v (kL n [tK]):=by
 have bw:Below w.heap.size w (w.alloc (.cells #[.string ⟨#[]⟩] 9)):=(gI _ w).alloc (aL _) _
 have hb:=dI w (.cells #[.string ⟨#[]⟩] 9)
 have cr:=CJ (w.alloc (.cells #[.string ⟨#[]⟩] 9)) w.heap.size 1 1 n n ([tK].map Value.string) rfl (by omega) (by omega) (by omega) (by omega) (Ci _) (by
  intro j v hj
  rw[aA hb j]
  simpa [tK] using hj)
 simp only[World.size_alloc] at cr
 clear hb
 go_enter func89,ntmps89
 go_wp2_with (go_at_call 126;(with_reducible refine cr.mono ?_);rintro e w2 ⟨rfl,hB,hr⟩;(have HB:=hid hB);(have HR:=hid hr);clear hB hr cr)
 go_ret
 refine⟨_,rfl,bw.trans (HB.out.mono (by omega)),Kz HR.out (by simp) (by omega) (by omega)⟩
theorem DX(n:Nat)(hn:n<=1000000)(w:World):Calls prog 91 #[.int .i64 n] w λe w'=>∃v,e=.returned v/\Below w.heap.size w w'/\OS w' w.heap.size v (if n=0 then [] else kL (n-1) [tK,⟨#[44]⟩]++[tK]):=by
 by_cases h0:n=0
 ·subst h0
  rw[if_pos rfl]
  go_enter func91,ntmps91
  go_wp2_with fail
  go_ret
  exact⟨_,rfl,gI _ _,World.ownsRow_nil _ _ _ _⟩
 ·rw[if_neg h0]
  obtain⟨m,rfl⟩:∃m,n=m+1:=⟨n-1,by omega⟩
  clear h0
  rw[Nat.add_sub_cancel]
  have b0:(((m+1:Nat):Int)==0)=false:=by
   have:¬ ((m+1:Nat):Int)=0:=by omega
   simpa using this
  have b1:aY.wrap (((m+1:Nat):Int)-1)=m:=by rw[ay];omega
  have bw:Below w.heap.size w (w.alloc (.cells #[.string ⟨#[]⟩,.string ⟨#[44]⟩] 9)):=(gI _ w).alloc (aL _) _
  have hb:=dI w (.cells #[.string ⟨#[]⟩,.string ⟨#[44]⟩] 9)
  have cr:=CJ (w.alloc (.cells #[.string ⟨#[]⟩,.string ⟨#[44]⟩] 9)) w.heap.size 2 2 m (m*2) ([tK,⟨#[44]⟩].map Value.string) rfl (by omega) (by omega) rfl (by omega) (Ci _) (by
   intro j v hj
   rw[aA hb j]
   simpa [tK] using hj)
  simp only[World.size_alloc] at cr
  clear hb
  generalize ((m+1:Nat):Int)=mm at *
  go_enter func91,ntmps91
  go_upto_region 3 with fail
  go_wp2_with (first|(go_at_call 126;(with_reducible refine cr.mono ?_);rintro e w2 ⟨rfl,hB,hr⟩;(have hB2:=bw.trans (hB.mono (Nat.le_succ _)));(have ho:OS w2 w.heap.size _ _:=Kz hr rfl (by omega) (by omega));(have b2:Below w2.heap.size w2 (w2.alloc (.cells #[.string ⟨#[]⟩] 9)):=(gI _ w2).alloc (aL _) _);(obtain⟨v3,w3,hrun,ho3,hg3⟩:=nM (w2.alloc (.cells #[.string ⟨#[]⟩] 9)) w.heap.size 86 (by simp;have:=hB2.size;omega) _ _ (ho.below b2) (.slice (some ⟨w2.heap.size,0,none⟩) 1 1) [tK] (eY (l:=[.string ⟨#[]⟩]) rfl (dI w2 _) (Nat.zero_le _) (by simp)) (by rw[mZ];simp;omega));(have HB:=hid (lG (hB2.trans (b2.mono hB2.size)) (ho.below b2) hg3));(have HO:=hid ho3);clear hB hr cr hB2 ho ho3 hg3 b2)|(at_builtin;refine bO _ rfl (.tmp 8) (.tmp 9) 86 86 rfl _ _ (by simp[Act.eval]) (by simp[Act.eval]) _ _ hrun ?_))
  go_ret
  exact⟨_,rfl,HB.out,HO.out⟩
end Go.Proofs.YtgchnkgolclmgaaGreatDoor.W.Tr

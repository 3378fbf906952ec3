import Derived.Test.YtjplieobnknnpaaGreatDoorJC
import Derived.Test.YtjplieobnknnpaaGreatDoorJH
import Derived.Maps.AppendAt
import Derived.Deep.RegionHeld3
import Derived.Test.YtjplieobnknnpaaGreatDoorJG
import Derived.Test.YtjplieobnknnpaaGreatDoorShelfP
import Derived.Lib.AppendZeros
import Derived.Lib.SliceRun
import Derived.Laws.CopyOwn
import Derived.Lib.SlBuf
open List renaming replicate → z0z, take_of_length_le → z5z, getElem?_take → z7z, length_append → z8z, getElem?_eq_some_iff → z10z, length_nil → z11z, take_append_of_le_length → z13z, replicate_append_replicate → z14z, getElem?_append_left → z15z
open Nat renaming le_refl → z1z, eq_zero_or_pos → z12z
open Go.World renaming alloc_heap_new → z6z
open Go.RowKit.Below renaming refl → z9z
open Go.IntKind renaming i64 → z2z, wrap_i64 → z3z
open Go.Lib renaming wpList_append_run → z4z
open Go.Proofs.Tryz
open List renaming getElem_toArray → zx1, getElem_cons_zero → zx2, getElem_cons_succ → zx3, setIfInBounds_toArray → zx4, set_cons_zero → zx5, set_cons_succ → zx6
set_option maxRecDepth 1000000
set_option maxHeartbeats 8000000
namespace Go.Proofs.YtjplieobnknnpaaGreatDoor.W
open Go.ChangeShapes Go.WideShapes Go.RowKit Go.Shelf
set_option linter.unusedVariables false
def Cn(y:Yd):Array Value:=#[.int .i64 y.t.kind,.int .i64 y.a,.string y.t.text,.int .i64 y.t.int,.int .u64 y.t.bits]
def IB(L:List Yd):List Value:=L.flatMap (λy=>(Cn y).toList)
theorem Bq{W W':World}{b:Nat}{e:TypeId}{size:Nat}{v:Value}{n:Nat}{xs:List Value}(ho:W.ownsRow b e size v n xs)(hk:∀k,v.ownBlock=some k->W'.heap[k]? = W.heap[k]?):W'.ownsRow b e size v n xs:=by
 refine⟨ho.1,?_⟩
 rcases ho.2 with h2|⟨g,cap,cur,rfl,h2,h3,h4⟩
 ·exact .inl h2
 ·exact .inr ⟨g,cap,cur,rfl,h2,(hk g rfl).trans h3,h4⟩
theorem Ak{W:World}{b:Nat}{e:TypeId}{size:Nat}{v:Value}{n:Nat}{xs:List Value}(h:W.ownsRow b e size v n xs):∃o cap,v=.slice o n cap:=by
 rcases h.2 with⟨rfl,rfl⟩|⟨g,cap,cur,rfl,_⟩
 ·exact⟨none,0,rfl⟩
 ·exact⟨_,cap,rfl⟩
end Go.Proofs.YtjplieobnknnpaaGreatDoor.W
namespace Go.Proofs.YtjplieobnknnpaaGreatDoor.W.Tr
open Go.ChangeShapes Go.WideShapes Go.RowKit Go.Shelf
set_option linter.unusedVariables false
set_option linter.unusedSimpArgs false
theorem N7:(prog.info? 9).map (λi=>(i.zero,i.size,i.bytes))=some (some (.string ⟨#[]⟩),1,16):=by kernel_rfl
theorem Lf:prog.underlying 89=some (.slice 9):=by kernel_rfl
def OS(W:World)(B:Nat)(v:Value)(ts:List ByteArray):Prop:=W.ownsRow B 9 1 v ts.length (ts.map Value.string)
theorem OS.below{W W':World}{B:Nat}{v:Value}{ts:List ByteArray}(h:OS W B v ts)(hB:Below W.heap.size W W'):OS W' B v ts:=Bq h (λk e=>hB.block k (h.lt k e).2)
theorem OS.base{W:World}{B C:Nat}{v:Value}{ts:List ByteArray}(h:OS W B v ts)(hC:C<=B):OS W C v ts:=by
 refine⟨h.1,?_⟩
 rcases h.2 with⟨h1,h2⟩|⟨g,cap,cur,h1,h2,h3⟩
 ·exact .inl ⟨h1,h2⟩
 ·exact .inr ⟨g,cap,cur,h1,Nat.le_trans hC h2,h3⟩
theorem Cz{W:World}{B b:Nat}{l:List Value}{ts:List ByteArray}(hl:l=ts.map Value.string)(hb:W.heap[b]? = some (.cells l.toArray 9 (0,0)))(hB:B<=b)(h0:ts.length<=4000000):OS W B (.slice (some ⟨b,0,none⟩) ts.length ts.length) ts:=by
 subst hl
 refine⟨by simp,.inr ⟨b,ts.length,_,rfl,hB,hb,z1z _,by unfold maxLen;omega,by simp,by rw[Nat.mul_one];exact z5z (by simp)⟩⟩
theorem YM(z:Value)(n:Nat)(hz:z.cells = #[z]):Builtin.zeroCells z.cells n=(z0z n z).toArray:=by
 rw[hz]
 apply Array.ext
 ·simp[Builtin.zeroCells]
 ·intro i h1 h2
  simp[Builtin.zeroCells,Nat.mod_one]
theorem nJ(w:World)(ty:TypeId)(m:Nat)(hm:0<m)(hm2:m<=4000000):∃cap w',(Builtin.append_ #[89,3] ty #[.slice none 0 0,.int .i64 (m:Int)]).run prog w=.ok (.slice (some ⟨w.heap.size,0,none⟩) m cap) w'/\w'.ownsRow w.heap.size 9 1 (.slice (some ⟨w.heap.size,0,none⟩) 0 cap) 0 []/\w.grownBy w' none/\m<=cap:=by
 obtain⟨i0,hi,hz0,hz1,hz2⟩:=info_parts N7
 have hrun:=Lib.run_append_nil_zeros (P:=prog) w 89 3 ty 9 i0 (.string ⟨#[]⟩) .i64 .i64 Lf underlying3 hi hz0 m hm (by omega) (by omega) (by rw[hz2];omega)
 refine⟨_,_,hrun,⟨by simp,.inr ⟨w.heap.size,_,_,rfl,z1z _,z6z w.drew _,Nat.zero_le _,grownCap_le_maxLen w _ _ _ (by unfold maxLen;omega),?_,by simp⟩⟩,⟨rfl,rfl,rfl,?_,λk hk _=>Below.heap_alloc w.drew _ k hk⟩,?_⟩
 ·have h1:(Value.string ⟨#[]⟩).cells = #[.string ⟨#[]⟩]:=rfl
  rw[YM _ _ h1,YM _ _ h1]
  have:=grownCap_ge w m 0 9
  simp;omega
 ·show w.heap.size<=(w.drew.alloc _).heap.size;simp
 ·exact grownCap_ge w m 0 9
theorem dJ(W:World)(m:Nat)(hm:0<m)(hm2:m<=4000000):Calls prog 148 #[.slice none 0 0,.int .i64 m] W λe w'=>∃v,e=.returned v/\Below W.heap.size W w'/\w'.ownsRow W.heap.size 9 1 v 0 []:=by
 obtain⟨cap,w1,hrun,hown,hgr,hcap⟩:=nJ W 89 m hm hm2
 have h1:¬ ((m:Int)<0):=by omega
 have h3:z2z.wrap (m:Int)=m:=by rw[z3z];omega
 have h4:(m:Int)>0:=by omega
 have hB:Below W.heap.size W w1:=((It.AL.refl (λ_=>False) W).grown hgr (λk e=>by cases e)).below (z1z _) (λk e=>e.elim)
 go_enter func148,ntmps148
 go_wp2_with (at_builtin;refine z4z _ rfl (.tmp 20) (.tmp 21) 89 3 rfl _ _ (by simp[Act.eval]) (by simp[Act.eval]) _ _ hrun ?_)
 go_ret
 exact⟨_,rfl,hB,hown⟩
theorem Mw(w:World)(B:Nat)(ty:TypeId)(hB:B<=w.heap.size)(v:Value)(ts:List ByteArray)(hown:OS w B v ts)(vs:Value)(us:List ByteArray)(hs:OS w 0 vs us)(hn:ts.length+us.length<=4000000) :
  ∃v' w',(Builtin.append_ #[89,89] ty #[v,vs]).run prog w=.ok v' w'/\OS w' B v' (ts++us)/\w.grownBy w' v.ownBlock:=by
 obtain⟨i0,hi,hz0,hz1,hz2⟩:=info_parts N7
 rcases hs.2 with⟨rfl,h0⟩|⟨sg,scap,scur,rfl,_,sh,snc,_,_,stk⟩
 ·have h0:us=[]:=List.eq_nil_of_length_eq_zero h0
  subst h0
  refine⟨v,w,?_,by simpa using hown,⟨rfl,rfl,rfl,z1z _,λk _ _=>rfl⟩⟩
  rcases hown.2 with⟨rfl,h1⟩|⟨g,cap',cur,rfl,_,_,hnc,_⟩
  ·simp[Builtin.append_,run_underlying Lf,sizeOf,typeInfo,hi,Builtin.lenOf,Builtin.firstCells]
  ·simp[Builtin.append_,run_underlying Lf,sizeOf,typeInfo,hi,Builtin.lenOf,Builtin.firstCells,hnc,storeCells]
 ·have h1:∀j u,(us.map Value.string)[j]? = some u->w.cell? ((⟨sg,0,none⟩:Addr).add j)=some u:=by
   intro j u hj
   have e1:((⟨sg,0,none⟩:Addr).add j)=⟨sg,j,none⟩:=by simp[Addr.add];intro e;exact e.symm
   have hj2:j<us.length:=by
    have:=(z10z.1 hj).1
    simpa using this
   rw[e1,cell_of_row _ sg j _ _ _ sh,<- hj,<- stk,z7z,if_pos (by omega),Array.getElem?_toList]
  have h2:∀u ∈ us.map Value.string,u.oneCell'=true:=by
   intro u hu
   obtain⟨x,_,rfl⟩:=List.mem_map.1 hu
   rfl
  obtain⟨v',w',hrun,ho,hg,_⟩:=run_append_own w B 89 ty 9 i0 (.string ⟨#[]⟩) 1 16 Lf hi hz0 hz1 hz2 rfl (by omega) v ts.length _ hown ⟨sg,0,none⟩ us.length scap (us.map Value.string) (by simp) h1 h2 (by unfold maxLen;omega) (by omega) hB
  refine⟨v',w',hrun,?_,hg⟩
  unfold OS
  rw[z8z,List.map_append]
  exact ho
theorem MR{W w w':World}{v:Value}{ts:List ByteArray}(hB:Below W.heap.size W w)(h:OS w W.heap.size v ts)(hg:w.grownBy w' v.ownBlock):Below W.heap.size W w':=
 hB.trans (((It.AL.refl (λk=>W.heap.size<=k) w).grown hg (λk e=>.inl (h.lt k e).1)).below hB.size (λk e=>e))
theorem rC(W:World)(gb cap:Nat)(v1 v2:Value)(r1 r2:List ByteArray)(hc0:W.cell? ⟨gb,0,none⟩=some v1)(hc1:W.cell? ⟨gb,1,none⟩=some v2)(h1:OS W 0 v1 r1)(h2:OS W 0 v2 r2)(hl:r1.length+r2.length<=4000000)(hp:0<r1.length+r2.length) :
  Calls prog 103 #[.slice (some ⟨gb,0,none⟩) 2 cap] W λe w'=>∃v,e=.returned v/\Below W.heap.size W w'/\OS w' W.heap.size v (r1++r2):=by
 have cg:=dJ W (r1.length+r2.length) hp hl
 obtain⟨o1,cap1,rfl⟩:=Ak h1
 obtain⟨o2,cap2,rfl⟩:=Ak h2
 have HL:=hid hl
 have H1:=hid h1
 have H2:=hid h2
 generalize hn1:r1.length=n1 at *
 generalize hn2:r2.length=n2 at *
 have a1:z2z.wrap (n1:Int)=(n1:Int):=by rw[z3z];omega
 have a2:z2z.wrap ((n1:Int)+(n2:Int))=(n1:Int)+(n2:Int):=by rw[z3z];omega
 have b1:¬ (n1:Int)<0:=by omega
 have b2:¬ (n1:Int)+(n2:Int)<0:=by omega
 rw[show ((n1+n2:Nat):Int)=(n1:Int)+(n2:Int) by omega] at cg
 have N1:=hid hn1
 have N2:=hid hn2
 clear hn1 hn2 hl h1 h2
 go_enter func103,ntmps103
 go_wp2
 refine wp_loop_rounds 3 ?_
 rw[rounds_succ]
 go_wp2
 rw[rounds_succ]
 go_wp2
 rw[rounds_succ]
 go_wp2_with (go_at_call 148;(with_reducible refine cg.mono ?_);rintro e w4 ⟨v,rfl,hB4,hown⟩;clear cg)
 have hown0:OS w4 W.heap.size v []:=hown
 obtain⟨v5,w5,hrun5,hown5,hg5⟩:=Mw w4 W.heap.size 89 hB4.size v [] hown0 (.slice o1 n1 cap1) r1 (H1.out.below hB4) (by rw[N1.out];have:=HL.out;simp;omega)
 have hB5:=MR hB4 hown0 hg5
 obtain⟨v6,w6,hrun6,hown6,hg6⟩:=Mw w5 W.heap.size 89 hB5.size v5 _ hown5 (.slice o2 n2 cap2) r2 (H2.out.below hB5) (by simp only[z8z,z11z];rw[N1.out,N2.out];have:=HL.out;omega)
 have hB6:=MR hB5 hown5 hg6
 have d0:=It.GX hB4 hc0
 have d1:=It.GX hB5 hc1
 have fin:Hid (OS w6 W.heap.size v6 (r1++r2)):=hid (by simpa using hown6)
 have HB6:=hid hB6
 obtain⟨p0,q0,hv0⟩:=Ak hown0
 obtain⟨p5,q5,hv5⟩:=Ak hown5
 subst hv0
 subst hv5
 clear hown hown0 hown5 hown6 hg5 hg6 hB5 hB6 hB4 H1 H2
 refine wp_loop_rounds 3 ?_
 rw[rounds_succ]
 go_wp2_with (at_builtin;refine z4z _ rfl (.tmp 31) (.tmp 32) 89 89 rfl _ _ (by simp[Act.eval]) (by simp[Act.eval]) _ _ hrun5 ?_)
 rw[rounds_succ]
 go_wp2_with (at_builtin;refine z4z _ rfl (.tmp 31) (.tmp 32) 89 89 rfl _ _ (by simp[Act.eval]) (by simp[Act.eval]) _ _ hrun6 ?_)
 rw[rounds_succ]
 go_wp2
 go_ret
 exact⟨_,rfl,HB6.out,fin.out⟩
theorem oV(W:World)(gb cap:Nat)(v1 v2 v3:Value)(r1 r2 r3:List ByteArray)(hc0:W.cell? ⟨gb,0,none⟩=some v1)(hc1:W.cell? ⟨gb,1,none⟩=some v2)(hc2:W.cell? ⟨gb,2,none⟩=some v3)(h1:OS W 0 v1 r1)(h2:OS W 0 v2 r2)(h3:OS W 0 v3 r3)(hl:r1.length+r2.length+r3.length<=4000000)(hp:0<r1.length+r2.length+r3.length) :
  Calls prog 103 #[.slice (some ⟨gb,0,none⟩) 3 cap] W λe w'=>∃v,e=.returned v/\Below W.heap.size W w'/\OS w' W.heap.size v (r1++r2++r3):=by
 have cg:=dJ W (r1.length+r2.length+r3.length) hp hl
 obtain⟨o1,cap1,rfl⟩:=Ak h1
 obtain⟨o2,cap2,rfl⟩:=Ak h2
 obtain⟨o3,cap3,rfl⟩:=Ak h3
 have HL:=hid hl
 have H1:=hid h1
 have H2:=hid h2
 have H3:=hid h3
 generalize hn1:r1.length=n1 at *
 generalize hn2:r2.length=n2 at *
 generalize hn3:r3.length=n3 at *
 have a1:z2z.wrap (n1:Int)=(n1:Int):=by rw[z3z];omega
 have a2:z2z.wrap ((n1:Int)+(n2:Int))=(n1:Int)+(n2:Int):=by rw[z3z];omega
 have a3:z2z.wrap ((n1:Int)+(n2:Int)+(n3:Int))=(n1:Int)+(n2:Int)+(n3:Int):=by rw[z3z];omega
 have b1:¬ (n1:Int)<0:=by omega
 have b2:¬ (n1:Int)+(n2:Int)<0:=by omega
 have b3:¬ (n1:Int)+(n2:Int)+(n3:Int)<0:=by omega
 rw[show ((n1+n2+n3:Nat):Int)=(n1:Int)+(n2:Int)+(n3:Int) by omega] at cg
 have N1:=hid hn1
 have N2:=hid hn2
 have N3:=hid hn3
 clear hn1 hn2 hn3 hl h1 h2 h3
 go_enter func103,ntmps103
 go_wp2
 refine wp_loop_rounds 4 ?_
 rw[rounds_succ]
 go_wp2
 rw[rounds_succ]
 go_wp2
 rw[rounds_succ]
 go_wp2
 rw[rounds_succ]
 go_wp2_with (go_at_call 148;(with_reducible refine cg.mono ?_);rintro e w4 ⟨v,rfl,hB4,hown⟩;clear cg)
 have hown0:OS w4 W.heap.size v []:=hown
 obtain⟨v5,w5,hrun5,hown5,hg5⟩:=Mw w4 W.heap.size 89 hB4.size v [] hown0 (.slice o1 n1 cap1) r1 (H1.out.below hB4) (by rw[N1.out];have:=HL.out;simp;omega)
 have hB5:=MR hB4 hown0 hg5
 obtain⟨v6,w6,hrun6,hown6,hg6⟩:=Mw w5 W.heap.size 89 hB5.size v5 _ hown5 (.slice o2 n2 cap2) r2 (H2.out.below hB5) (by simp only[z8z,z11z];rw[N1.out,N2.out];have:=HL.out;omega)
 have hB6:=MR hB5 hown5 hg6
 obtain⟨v7,w7,hrun7,hown7,hg7⟩:=Mw w6 W.heap.size 89 hB6.size v6 _ hown6 (.slice o3 n3 cap3) r3 (H3.out.below hB6) (by simp only[z8z,z11z];rw[N1.out,N2.out,N3.out];have:=HL.out;omega)
 have hB7:=MR hB6 hown6 hg7
 have d0:=It.GX hB4 hc0
 have d1:=It.GX hB5 hc1
 have d2:=It.GX hB6 hc2
 have fin:Hid (OS w7 W.heap.size v7 (r1++r2++r3)):=hid (by simpa using hown7)
 have HB7:=hid hB7
 obtain⟨p0,q0,hv0⟩:=Ak hown0
 obtain⟨p5,q5,hv5⟩:=Ak hown5
 obtain⟨p6,q6,hv6⟩:=Ak hown6
 subst hv0
 subst hv5
 subst hv6
 clear hown hown0 hown5 hown6 hown7 hg5 hg6 hg7 hB5 hB6 hB7 hB4 H1 H2 H3
 refine wp_loop_rounds 4 ?_
 rw[rounds_succ]
 go_wp2_with (at_builtin;refine z4z _ rfl (.tmp 31) (.tmp 32) 89 89 rfl _ _ (by simp[Act.eval]) (by simp[Act.eval]) _ _ hrun5 ?_)
 rw[rounds_succ]
 go_wp2_with (at_builtin;refine z4z _ rfl (.tmp 31) (.tmp 32) 89 89 rfl _ _ (by simp[Act.eval]) (by simp[Act.eval]) _ _ hrun6 ?_)
 rw[rounds_succ]
 go_wp2_with (at_builtin;refine z4z _ rfl (.tmp 31) (.tmp 32) 89 89 rfl _ _ (by simp[Act.eval]) (by simp[Act.eval]) _ _ hrun7 ?_)
 rw[rounds_succ]
 go_wp2
 go_ret
 exact⟨_,rfl,HB7.out,fin.out⟩
theorem tV(v:Value)(n:Nat):(madeCells #[v] n).toList=z0z n v:=by
 apply List.ext_getElem?
 intro i
 by_cases hi:i<n
 ·rw[List.getElem?_replicate,if_pos hi]
  simp[madeCells,hi,Nat.mod_one]
 ·rw[List.getElem?_replicate,if_neg hi]
  simp[madeCells,hi]
def JK(w:World)(g m:Nat)(F:List Value):Prop:=w.heap[g]? = some (.cells (F.take m++z0z (F.length-m) (Value.string ⟨#[]⟩)).toArray 9 (0,0))
theorem vM(w:World)(F:List Value)(hn:F.length<=4000000):∃w',(Instr.makeSlice 89 (.int .i64 (F.length:Int)) (.int .i64 (F.length:Int))).run prog w=.ok (.slice (some ⟨w.heap.size,0,none⟩) F.length F.length) w'/\JK w' w.heap.size 0 F/\Below w.heap.size w w'/\w.heap.size<w'.heap.size:=by
 obtain⟨i0,hi,hz0,hz1,hz2⟩:=info_parts N7
 obtain⟨w',h1,h2,h3⟩:=run_makeSlice_full (P:=prog) w w.heap.size 89 9 i0 (Value.string ⟨#[]⟩) 1 Lf hi hz0 hz1 .i64 .i64 F.length (by omega) (by rw[hz2];omega) (by simp[maxLen];omega) (z1z _)
 have e:(madeCells (Value.string ⟨#[]⟩).cells (F.length*1)).toList=z0z F.length (Value.string ⟨#[]⟩):=by
  rw[Nat.mul_one];exact tV _ F.length
 rw[e] at h2
 have hlt:=(h2.lt _ rfl).2
 have hU:It.AL (λ_=>False) w w':=(It.AL.refl (λ_=>False) w).grown h3 (λk e=>by cases e)
 refine⟨w',h1,?_,hU.below (z1z _) (λk e=>e.elim),hlt⟩
 rcases h2.2 with⟨hv,_⟩|⟨g,cap,cur,hv,_,hg,_,_,hsz,htk⟩
 ·cases hv
 ·cases hv
  unfold JK
  rw[hg]
  have:cur.toList=z0z F.length (Value.string ⟨#[]⟩):=by
   rw[<- htk,z5z (by rw[Array.length_toList,hsz];exact z1z _)]
  rw[List.take_zero,List.nil_append,Nat.sub_zero,<- this]
theorem yQ(F:List Value)(m c:Nat)(hm:m<=F.length)(hc:c<=F.length-m):((F.take m++z0z (F.length-m) (Value.string ⟨#[]⟩)).toArray.toList.take m++(F.drop m).take c++(F.take m++z0z (F.length-m) (Value.string ⟨#[]⟩)).toArray.toList.drop (m+c))=F.take (m+c)++z0z (F.length-(m+c)) (Value.string ⟨#[]⟩):=by
 rw[List.toList_toArray]
 have e1:(F.take m++z0z (F.length-m) (Value.string ⟨#[]⟩)).take m=F.take m:=by
  rw[z13z (by simp;omega),z5z (by simp;omega)]
 have e2:(F.take m++z0z (F.length-m) (Value.string ⟨#[]⟩)).drop (m+c)=z0z (F.length-(m+c)) (Value.string ⟨#[]⟩):=by
  rw[List.drop_append,List.drop_of_length_le (by simp;omega),List.nil_append,List.length_take,Nat.min_eq_left hm,Nat.add_sub_cancel_left,List.drop_replicate]
  congr 1
  omega
 rw[e1,e2,<- List.take_add]
theorem aH(w:World)(g m:Nat)(F:List Value)(hm:m<=F.length)(hr:JK w g m F)(ty:TypeId)(a:Addr)(sl sc dc c:Nat)(hcc:c=min sl (F.length-m))(h1:∀u ∈ F,u.oneCell'=true)(hsrc:∀j v,((F.drop m).take c)[j]? = some v->w.cell? (a.add j)=some v) :
  ∃w',(Builtin.copy_ #[89,89] ty #[.slice (some ⟨g,m,none⟩) (F.length-m) dc,.slice (some a) sl sc]).run prog w=.ok (.int .i64 (c:Int)) w'/\JK w' g (m+c) F/\It.AL (λk=>k=g) w w':=by
 obtain⟨i0,hi,hz0,hz1,hz2⟩:=info_parts N7
 have hc1:c<=F.length-m:=by omega
 have hl:((F.drop m).take c).length=c:=by simp;omega
 have hrun:=run_copy_row (P:=prog) w 89 89 ty 9 g m (F.length-m) dc a sl sc _ 9 ((F.drop m).take c) Lf (by rw[hi];simp[hz1]) hr (by rw[hl];exact hcc) hsrc (by simp;omega) (by intro v hv;exact h1 v (List.mem_of_mem_drop (List.mem_of_mem_take hv)))
 rw[hl] at hrun
 refine⟨_,hrun,?_,⟨rfl,rfl,rfl,by rw[size_setRow];exact z1z _,λk hk hn=>setRow_other w g k _ hn⟩⟩
 unfold JK
 rw[setRow_heap w g _ _ _ _ hr]
 rw[yQ F m c hm hc1]
def ED(n:Nat)(xs:List Value):List Value:=(z0z n xs).flatten
theorem UE(n:Nat)(xs:List Value):(ED n xs).length=n*xs.length:=by simp[ED]
theorem lV(n k:Nat)(xs:List Value)(hk:k<=n):(ED n xs).drop (k*xs.length)=ED (n-k) xs:=by
 have e:ED n xs=ED k xs++ED (n-k) xs:=by
  unfold ED
  rw[<- List.flatten_append,z14z,Nat.add_sub_cancel' hk]
 rw[e,List.drop_left' (UE k xs)]
theorem sD(n k c:Nat)(xs:List Value)(hk:k<=n)(hc:c<=(n-k)*xs.length):(ED (n-k) xs).take c=(ED n xs).take c:=by
 have e:ED n xs=ED (n-k) xs++ED k xs:=by
  unfold ED
  rw[<- List.flatten_append,z14z,Nat.sub_add_cancel hk]
 rw[e,z13z (by rw[UE];exact hc)]
theorem AAh{w:World}{g m:Nat}{F:List Value}(hr:JK w g m F){j:Nat}{v:Value}(hj:j<m)(hm:m<=F.length)(h:F[j]? = some v):w.cell? ⟨g,j,none⟩=some v:=by
 rw[cell_of_row w g j _ _ (0,0) hr,List.getElem?_toArray,z15z (by simp;omega),z7z,if_pos hj]
 exact h
theorem eB(g j:Nat):((⟨g,0,none⟩:Addr).add j)=⟨g,j,none⟩:=by unfold Addr.add;split <;> simp_all
theorem Vi(W:World)(gb cap q n N:Nat)(xs:List Value)(hx:xs.length=q)(hq:0<q)(hqb:q<=4)(hN:N=n*q)(hn:N<=4000000)(h1:∀u ∈ xs,u.oneCell'=true)(hc:∀j v,xs[j]? = some v->W.cell? ⟨gb,j,none⟩=some v) :
  Calls prog 147 #[.slice (some ⟨gb,0,none⟩) q cap,.int .i64 n] W λe w'=>e=.returned (.slice (some ⟨W.heap.size,0,none⟩) N N)/\Below W.heap.size W w'/\JK w' W.heap.size N (ED n xs):=by
 have hnN:n<=N:=by rw[hN];exact Nat.le_mul_of_pos_right _ hq
 have hqN:n=0\/q<=N:=by
  rcases z12z n with h|h
  ·exact .inl h
  ·exact .inr (by rw[hN];exact Nat.le_mul_of_pos_left _ h)
 have b1:¬ (n:Int)<0:=by omega
 have b2:IntKind.u64.wrap (n:Int)=n:=by rw[IntKind.wrap_u64];omega
 have b3:¬ (N:Int)>9223372036854775807:=by omega
 have b4:z2z.wrap (N:Int)=N:=by rw[z3z];omega
 have b5:IntKind.u64.wrap (q:Int)=q:=by rw[IntKind.wrap_u64];omega
 have cm:Calls prog 173 #[.int .u64 q,.int .u64 n] W λe w'=>e=.returned (.tuple #[.int .u64 0,.int .u64 N])/\w'=W:=by
  have h:=Tryz.bits_Mul q n (by omega) (by omega) W
  rw[show q*n=N by rw[hN,Nat.mul_comm],Nat.div_eq_of_lt (by omega),Nat.mod_eq_of_lt (by omega)] at h
  exact h
 obtain⟨F,hF⟩:∃F,ED n xs=F:=⟨_,rfl⟩
 have hFl:F.length=N:=by rw[<- hF,UE,hx,hN]
 have hF1:∀u ∈ F,u.oneCell'=true:=by
  intro u hu
  rw[<- hF] at hu
  simp only[ED,List.mem_flatten,List.mem_replicate] at hu
  obtain⟨l,⟨_,rfl⟩,hu⟩:=hu
  exact h1 u hu
 obtain⟨W1,hmk,hr,hB1,hl1⟩:=vM W F (by omega)
 rw[hFl] at hmk
 obtain⟨W2,hcp,hr2,hU2⟩:=aH W1 W.heap.size 0 F (Nat.zero_le _) hr 3 ⟨gb,0,none⟩ q cap N (min q (F.length-0)) rfl hF1 (by
  intro j v hj
  rw[eB]
  refine It.GX hB1 (hc j v ?_)
  have hjq:j<min q (F.length-0):=by
   have:=(z10z.1 hj).1
   simp at this
   omega
  rw[z7z,if_pos hjq,List.drop_zero] at hj
  rw[<- hj,<- hF]
  rcases z12z n with h|h
  ·rw[<- hF,h] at hj
   simp[ED] at hj
  ·obtain⟨n',rfl⟩:∃n',n=n'+1:=⟨n-1,by omega⟩
   unfold ED
   rw[List.replicate_succ,List.flatten_cons,z15z (by omega)])
 have hB2:Below W.heap.size W W2:=hB1.trans (hU2.below hB1.size (λk e=>by rw[e];exact z1z _))
 simp only[Nat.zero_add,Nat.sub_zero,hFl] at hr2 hcp
 generalize hm1:min q N=m1 at hr2 hcp
 have HM:Hid ((m1=0->N=0)/\m1<=N/\(m1=N\/∃k,k<=n/\m1=k*q)):=by
  refine⟨by omega,by omega,?_⟩
  rcases Nat.lt_or_ge q N with h|h
  ·refine .inr ⟨1,?_,by omega⟩
   rcases hqN with h'|h'
   ·rw[h'] at hN;omega
   ·rcases z12z n with h2|h2
    ·rw[h2] at hN;omega
    ·exact h2
  ·exact .inl (by omega)
 generalize hG:W.heap.size=G at *
 have HF:=hid hF
 have HN:=hid hN
 have HX:=hid hx
 have HL:=hid hFl
 have H1:=hid hF1
 have HQ:=hid hnN
 clear hm1 hr hU2 hc hB1 hF hN hx hFl hF1 hnN hqN h1
 go_enter func147,ntmps147
 go_upto_region 7 with(go_at_call 173;(with_reducible refine cm.mono ?_);rintro e w' ⟨rfl,hw⟩;(have hw':=hw.symm);subst hw';clear hw)
 go_wp2_with (at_builtin;refine Lib.wpList_copy_run _ rfl (.tmp 31) (.tmp 32) 89 89 rfl _ _ (by simp[Act.eval]) (by simp[Act.eval]) hcp ?_)
 clear hcp hmk cm
 go_loopw [8] (λii wr=>∃m:Nat,m<=N/\(m=0->N=0)/\ii=.int .i64 m/\Below G W wr/\JK wr G m F/\(m=N\/∃k,k<=n/\m=k*q)) (λii _=>N-(intOf ii).toNat)
 case atStart=>exact⟨m1,HM.out.2.1,HM.out.1,rfl,hB2,hr2,HM.out.2.2⟩
 case round=>
  obtain⟨m,hm,hm0,rfl,hB,hr,hk⟩:=hrel
  clear hr2 hB2 HM
  by_cases hlt:m<N
  ·have j1:(m:Int)<N:=by omega
   go_upto_region 9 with fail
   have hmp:0<m:=by omega
   obtain⟨c,hcc⟩:∃c,c=min m (N-m):=⟨_,rfl⟩
   have hcl:c<=N-m:=by omega
   have hcp:0<c:=by omega
   obtain⟨k,hkn,hkm⟩:∃k,k<=n/\m=k*q:=by
    rcases hk with h|h
    ·omega
    ·exact h
   have hpre:(F.drop m).take c=F.take c:=by
    have e1:=lV n k xs hkn
    rw[HF.out,HX.out,<- hkm] at e1
    rw[e1,sD n k c xs hkn,HF.out]
    rw[HX.out,Nat.sub_mul,<- HN.out,<- hkm]
    exact hcl
   obtain⟨w',hcp',hr',hU'⟩:=aH wr.drew G m F (by have:=HL.out;omega) hr 3 ⟨G,0,none⟩ m N (N-m) c (by rw[HL.out];exact hcc) H1.out (by
    intro j v hj
    have hjm:j<c:=by
     have:=(z10z.1 hj).1
     simp at this
     omega
    rw[hpre,z7z,if_pos hjm] at hj
    rw[eB]
    exact AAh (w:=wr.drew) hr (by omega) (by have:=HL.out;omega) hj)
   rw[HL.out] at hcp'
   have hUd:It.AL (λk=>k=G) wr w':=⟨hU'.os,hU'.tape,hU'.output,hU'.size,hU'.block⟩
   have hB':Below G W w':=hB.trans (hUd.below (by have:=hB.size;omega) (λk e=>by omega))
   have g1:(0:Int)<=m:=by omega
   have g2:(m:Int)<=N:=by omega
   have g3:¬N=m:=by omega
   have g4:z2z.wrap ((m:Int)+(c:Int))=((m+c:Nat):Int):=by rw[z3z];omega
   have HK:Hid (m+c=N\/∃k,k<=n/\m+c=k*q):=by
    rcases Nat.lt_or_ge (N-m) m with h|h
    ·exact .inl (by omega)
    ·refine .inr ⟨k+k,?_,by rw[Nat.add_mul,<- hkm];omega⟩
     have h3:(k+k)*q<=n*q:=by rw[Nat.add_mul,<- hkm,<- HN.out];omega
     exact Nat.le_of_mul_le_mul_right h3 hq
   have HR:=hid hr'
   have HB:=hid hB'
   have HC:=hid (And.intro hcl hcp)
   clear hU' hUd hr hr' hB hB' hcc hcl hcp hm0 hpre hk hkm hkn H1 HF HX
   refine wp_region_held_drew (S:=λ_=>True) (by kernel_rfl) trivial ?_
   intro hS
   (refine It.nH 0 ?_ rfl (by kernel_rfl) (λ_ _ _ h=>h) (Or.inl ⟨by rfl,?_⟩) trivial ?_);rotate_left;(focus (intro w' hSw;go_simp;(try with_reducible rfl)));(try simp only[Act.put,List.getElem_toArray,List.getElem_cons_zero,List.setIfInBounds_toArray,List.set_cons_zero,List.set_cons_succ])
   iterate 2 ((refine It.nH 1 ?_ rfl (by kernel_rfl) (λ_ _ _ h=>h) (Or.inl ⟨by rfl,?_⟩) trivial ?_);rotate_left;(focus (intro w' hSw;go_simp;(try with_reducible rfl)));(try simp only[Act.put,zx1,zx2,zx3,zx4,zx5,zx6]))
   iterate 2 ((refine It.nH 4 ?_ rfl (by kernel_rfl) (λ_ _ _ h=>h) (Or.inl ⟨by rfl,?_⟩) trivial ?_);rotate_left;(focus (intro w' hSw;go_simp;(try with_reducible rfl)));(try simp only[Act.put,zx1,zx2,zx3,zx4,zx5,zx6]))
   (refine It.nH 3 ?_ rfl (by kernel_rfl) (λ_ _ _ h=>h) (Or.inl ⟨by rfl,?_⟩) trivial ?_);rotate_left;(focus (intro w' hSw;go_simp;(try with_reducible rfl)));(try simp only[Act.put,zx1,zx2,zx3,zx4,zx5,zx6])
   (refine It.nH 6 ?_ rfl (by kernel_rfl) (λ_ _ _ h=>h) (Or.inl ⟨by rfl,?_⟩) trivial ?_);rotate_left;(focus (intro w' hSw;go_simp;(try with_reducible rfl)));(try simp only[Act.put,zx1,zx2,zx3,zx4,zx5,zx6])
   refine wpAnyH_ready (rs:=[7]) (by kernel_rfl) (by simp) ?_
   refine AllReadyH.cons rfl (λK hK=>?_) AllReadyH.nil
   rw[if_pos (by rfl)]
   refine Lib.wp_copy_run _ (.tmp 41) (.tmp 44) 89 89 rfl (.slice (some ⟨G,m,none⟩) (N-m) (N-m)) (.slice (some ⟨G,0,none⟩) m N) (by rfl) (by rfl) hcp' ?_
   refine hK.out _ _ trivial (λ_=>?_)
   clear hK K hcp'
   (try simp only[Act.put,zx1,zx2,zx3,zx4,zx5,zx6])
   iterate 2 ((refine It.nH 8 ?_ rfl (by kernel_rfl) (λ_ _ _ h=>h) (Or.inl ⟨by rfl,?_⟩) trivial ?_);rotate_left;(focus (intro w' hSw;go_simp;(try with_reducible rfl)));(try simp only[Act.put,zx1,zx2,zx3,zx4,zx5,zx6]))
   refine wpAnyH_done (by kernel_rfl) ?_ _
   go_wp2
   go_roundw
   case rel=>exact⟨m+c,by have:=HC.out;omega,λe=>by omega,by go_num,HB.out,HR.out,HK.out⟩
   case measure=>show N-((m+c:Nat):Int).toNat<N-(m:Int).toNat;have:=HC.out;omega
  ·have j1:¬ (m:Int)<N:=by omega
   have e:m=N:=by omega
   subst e
   go_wp2
   go_ret
   exact⟨rfl,hB,by rw[HF.out];exact hr⟩
def tK:ByteArray:=⟨#[]⟩
def BZ(n:Nat)(ts:List ByteArray):List ByteArray:=(z0z n ts).flatten
theorem Jh(n:Nat)(ts:List ByteArray):(BZ n ts).length=n*ts.length:=by simp[BZ]
theorem xA(n:Nat)(ts:List ByteArray):ED n (ts.map Value.string)=(BZ n ts).map Value.string:=by
 unfold ED BZ
 rw[List.map_flatten,List.map_replicate]
theorem ZK{w:World}{B g n N:Nat}{ts:List ByteArray}(h:JK w g N (ED n (ts.map Value.string)))(hN:N=n*ts.length)(hB:B<=g)(hb:N<=4000000):OS w B (.slice (some ⟨g,0,none⟩) N N) (BZ n ts):=by
 have e:(BZ n ts).length=N:=by rw[Jh,hN]
 unfold JK at h
 rw[xA] at h
 have h2:=Cz (W:=w) (B:=B) (b:=g) (ts:=BZ n ts) (l:=(BZ n ts).map Value.string) rfl (by
  rw[h,z5z (by simp[e]),show (((BZ n ts).map Value.string).length-N)=0 by simp[e]]
  simp) hB (by omega)
 rw[e] at h2
 exact h2
theorem Vn(ts:List ByteArray):∀u ∈ ts.map Value.string,u.oneCell'=true:=by
 intro u hu
 obtain⟨x,_,rfl⟩:=List.mem_map.1 hu
 rfl
theorem QS(n:Nat)(hn:n<=1000000)(w:World):Calls prog 102 #[.int .i64 n] w λe w'=>∃v,e=.returned v/\Below w.heap.size w w'/\OS w' w.heap.size v (BZ n [tK]):=by
 have bw:Below w.heap.size w (w.alloc (.cells #[.string ⟨#[]⟩] 9)):=(z9z _ w).alloc (z1z _) _
 have hb:=z6z w (.cells #[.string ⟨#[]⟩] 9)
 have cr:=Vi (w.alloc (.cells #[.string ⟨#[]⟩] 9)) w.heap.size 1 1 n n ([tK].map Value.string) rfl (by omega) (by omega) (by omega) (by omega) (Vn _) (by
  intro j v hj
  rw[AO hb j]
  simpa [tK] using hj)
 simp only[World.size_alloc] at cr
 clear hb
 go_enter func102,ntmps102
 go_wp2_with (go_at_call 147;(with_reducible refine cr.mono ?_);rintro e w2 ⟨rfl,hB,hr⟩;(have HB:=hid hB);(have HR:=hid hr);clear hB hr cr)
 go_ret
 refine⟨_,rfl,bw.trans (HB.out.mono (by omega)),ZK HR.out (by simp) (by omega) (by omega)⟩
theorem Zh(n:Nat)(hn:n<=1000000)(w:World):Calls prog 104 #[.int .i64 n] w λe w'=>∃v,e=.returned v/\Below w.heap.size w w'/\OS w' w.heap.size v (if n=0 then [] else BZ (n-1) [tK,⟨#[44]⟩]++[tK]):=by
 by_cases h0:n=0
 ·subst h0
  rw[if_pos rfl]
  go_enter func104,ntmps104
  go_wp2_with fail
  go_ret
  exact⟨_,rfl,z9z _ _,World.ownsRow_nil _ _ _ _⟩
 ·rw[if_neg h0]
  obtain⟨m,rfl⟩:∃m,n=m+1:=⟨n-1,by omega⟩
  clear h0
  rw[Nat.add_sub_cancel]
  have b0:(((m+1:Nat):Int)==0)=false:=by
   have:¬ ((m+1:Nat):Int)=0:=by omega
   simpa using this
  have b1:z2z.wrap (((m+1:Nat):Int)-1)=m:=by rw[z3z];omega
  have bw:Below w.heap.size w (w.alloc (.cells #[.string ⟨#[]⟩,.string ⟨#[44]⟩] 9)):=(z9z _ w).alloc (z1z _) _
  have hb:=z6z w (.cells #[.string ⟨#[]⟩,.string ⟨#[44]⟩] 9)
  have cr:=Vi (w.alloc (.cells #[.string ⟨#[]⟩,.string ⟨#[44]⟩] 9)) w.heap.size 2 2 m (m*2) ([tK,⟨#[44]⟩].map Value.string) rfl (by omega) (by omega) rfl (by omega) (Vn _) (by
   intro j v hj
   rw[AO hb j]
   simpa [tK] using hj)
  simp only[World.size_alloc] at cr
  clear hb
  generalize ((m+1:Nat):Int)=mm at *
  go_enter func104,ntmps104
  go_upto_region 3 with fail
  go_wp2_with (first|(go_at_call 147;(with_reducible refine cr.mono ?_);rintro e w2 ⟨rfl,hB,hr⟩;(have hB2:=bw.trans (hB.mono (Nat.le_succ _)));(have ho:OS w2 w.heap.size _ _:=ZK hr rfl (by omega) (by omega));(have b2:Below w2.heap.size w2 (w2.alloc (.cells #[.string ⟨#[]⟩] 9)):=(z9z _ w2).alloc (z1z _) _);(obtain⟨v3,w3,hrun,ho3,hg3⟩:=Mw (w2.alloc (.cells #[.string ⟨#[]⟩] 9)) w.heap.size 89 (by simp;have:=hB2.size;omega) _ _ (ho.below b2) (.slice (some ⟨w2.heap.size,0,none⟩) 1 1) [tK] (Cz (l:=[.string ⟨#[]⟩]) rfl (z6z w2 _) (Nat.zero_le _) (by simp)) (by rw[Jh];simp;omega));(have HB:=hid (MR (hB2.trans (b2.mono hB2.size)) (ho.below b2) hg3));(have HO:=hid ho3);clear hB hr cr hB2 ho ho3 hg3 b2)|(at_builtin;refine z4z _ rfl (.tmp 8) (.tmp 9) 89 89 rfl _ _ (by simp[Act.eval]) (by simp[Act.eval]) _ _ hrun ?_))
  go_ret
  exact⟨_,rfl,HB.out,HO.out⟩
end Go.Proofs.YtjplieobnknnpaaGreatDoor.W.Tr

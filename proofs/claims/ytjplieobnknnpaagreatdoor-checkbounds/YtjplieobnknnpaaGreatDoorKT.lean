import Derived.Test.YtjplieobnknnpaaGreatDoorKP
import Derived.Test.YtjplieobnknnpaaGreatDoorJP
import Derived.Test.YtjplieobnknnpaaGreatDoorJG
open List renaming getElem?_eq_some_iff → z8z
open Nat renaming le_refl → z3z, reduceAdd → z9z
open Go.World renaming size_alloc → z1z, alloc → z2z, alloc_heap_new → z5z
open Go.RowKit.Below renaming heap_alloc → z7z, heap_setCell → z10z
open Go.IntKind renaming i64 → z4z, wrap_i64 → z6z
open And renaming intro → z0z
open Go.Proofs.Tryz
open List renaming getElem_toArray → zx1, getElem_cons_zero → zx2, getElem_cons_succ → zx3, setIfInBounds_toArray → zx4, set_cons_zero → zx5, set_cons_succ → zx6
set_option maxRecDepth 1000000
set_option maxHeartbeats 8000000
namespace Go.Proofs.YtjplieobnknnpaaGreatDoor.W.Tr
open Go.ChangeShapes Go.WideShapes Go.RowKit Go.Shelf Go.ChangeMaps Ck
set_option linter.unusedVariables false
set_option linter.unusedSimpArgs false
def Kl(E:List Nat)(a kd:Nat):List (Array Value):=(List.range kd).map λk=>#[.int .i64 (k:Nat),.int .i64 (((hop E (a+1) k).getD 0:Nat):Int)]
theorem Ky(E:List Nat)(a kd:Nat):(Kl E a kd).length=kd:=by simp[Kl]
theorem Lr(E:List Nat)(a kd j:Nat)(hj:j<(Kl E a kd).length):(Kl E a kd)[j] = #[.int .i64 (j:Nat),.int .i64 (((hop E (a+1) j).getD 0:Nat):Int)]:=by
 simp[Kl]
theorem VF:∀args w,(callFunc 26 args).run prog w=.ok (.enter 26 args) w:=enters_of func26 (by kernel_rfl) rfl
structure Qk (ab rb gl lc ge ce:Nat) (L:List (Nd × Nat)) (E:List Nat) (a kd:Nat) (W:World):Prop where
 c0:W.cell? ⟨ab,0,none⟩=some (.int .i64 (a:Nat))
 c1:W.cell? ⟨rb,0,none⟩=some (.slice (some ⟨gl,0,none⟩) L.length lc)
 c2:W.cell? ⟨rb,1,none⟩=some (.slice (some ⟨ge,0,none⟩) E.length ce)
 ck:W.cell? ⟨gl,a*6+2,none⟩=some (.int .i64 (kd:Nat))
 ce:∀ (i x:Nat),E[i]? = some x->W.cell? ⟨ge,i,none⟩=some (.int .i64 (x:Nat))
theorem Ud(w:World)(lv ev:Value)(hlv:∃o n c,lv=.slice o n c)(hev:∃o n c,ev=.slice o n c)(a:Nat):Calls prog 16 #[.agg #[lv,ev],.int .i64 (a:Nat)] w λe w'=>e=.returned (.func (.func 26) #[] #[.pointer (some ⟨w.heap.size+1,0,none⟩),.pointer (some ⟨w.heap.size,0,none⟩)])/\w'=(w.alloc (.cells #[lv,ev] 41)).alloc (.cells #[.int .i64 (a:Nat)] 3):=by
 obtain⟨o1,n1,c1,rfl⟩:=hlv
 obtain⟨o2,n2,c2,rfl⟩:=hev
 go_enter func16,ntmps16
 go_wp2
 go_ret
 exact⟨rfl,rfl⟩
theorem TQ(ab rb gl lc ge ce:Nat)(L:List (Nd × Nat))(E:List Nat)(hok:Gy L E)(hLl:L.length<=1000000)(a kd:Nat)(nd:Nd)(ha:L[a]? = some (nd,kd)):Jc 26 #[.pointer (some ⟨ab,0,none⟩),.pointer (some ⟨rb,0,none⟩)] (Kl E a kd) (Qk ab rb gl lc ge ce L E a kd):=by
 intro n l J X hn hL hB hY D0 W h0
 show CallsIn Fence.wide n prog 26 #[.func (.yield l) #[] #[],.pointer (some ⟨ab,0,none⟩),.pointer (some ⟨rb,0,none⟩)] W λe W'=>(∃v,e=.returned v)/\((∃D',J (Kl E a kd).length D' W')\/X W')
 obtain⟨g0,-⟩:=hL 0 D0 W h0
 have hal:=(z8z.1 ha).1
 have hEl:=hok.len
 have hkd:kd<=1000000:=by
  obtain⟨x,h1,h2⟩:=hok.few ha kd (z3z _)
  obtain⟨x',g1,_,_,g4⟩:=hok.kid a _ ha kd (z3z _)
  rw[h1] at g1
  obtain rfl:=Option.some.inj g1
  have:=(g4 rfl).2
  omega
 have i0:=g0.c0
 have i1:=g0.c1
 have i2:=g0.ck
 have HL:=hid hL
 have HY:=hid hY
 have H0:=hid h0
 have HK:=hid hok
 have HA:=hid ha
 have a0:(0:Int)<=(a:Nat):=by omega
 have a1:((a:Nat):Int)<L.length:=by omega
 have a2:z4z.wrap ((a:Int)+1)=((a+1:Nat):Int):=by rw[z6z];omega
 refine callsIn_of_wp func26 rfl trivial ?_ rfl
 simp only[ntmps26,List.size_toArray,List.length_cons,List.length_nil,z9z,Nat.reduceSub,Array.replicate_succ,Array.replicate_zero,List.push_toArray,List.append_toArray,List.nil_append,List.cons_append]
 clear hY hL hB h0 g0 hok ha
 refine wpIn_wide.2 ?_
 go_upto_region 2 with fail
 go_loopw [4,14] (λx' i' wr=>∃ (j x:Nat) (D:Nat->Prop),j<=kd/\x'=.int .i64 (x:Nat)/\i'=.int .i64 (j:Nat)/\hop E (a+1) j=some x/\J j D wr) (λ_ i' _=>kd-(intOf i').toNat)
 case atStart=>exact⟨0,a+1,D0,Nat.zero_le _,rfl,rfl,rfl,H0.out⟩
 case round=>
  obtain⟨j,x,D,hj,rfl,rfl,hh,hJ⟩:=hrel
  clear H0 i0 i1 i2 a0 a1 a2
  by_cases hlt:j<kd
  case neg=>
   have b0:¬ ((j:Nat):Int)<kd:=by omega
   have he:j=kd:=by omega
   have HJ:=hid hJ
   clear hJ hh
   go_wp2
   go_end0
   exact⟨⟨_,rfl⟩,.inl ⟨D,by rw[Ky,<- he];exact HJ.out⟩⟩
  have b0:((j:Nat):Int)<kd:=by omega
  have hj2:j<(Kl E a kd).length:=by rw[Ky];exact hlt
  have yy:=HY.out j hj2 D _ hJ
  rw[Lr,hh,Option.getD_some] at yy
  have y2:YieldAt Fence.wide (n-1) prog l #[.int .i64 (j:Nat),.int .i64 (x:Nat)] wr λe W'=>(e=.returned (.bool true)/\(∃D',J (j+1) D' W')/\(∀k,k<wr.heap.size->¬D k->W'.heap[k]? = wr.heap[k]?))\/(e=.returned (.bool false)/\X W'):=yy
  obtain⟨fn',tmps,assign,body,hy,hR⟩:=y2
  have e1:z4z.wrap ((j:Int)+1)=((j+1:Nat):Int):=by rw[z6z];omega
  obtain⟨x',h1,h2,h3,_⟩:=HK.out.kid a _ HA.out j hj
  rw[hh] at h1
  obtain rfl:=Option.some.inj h1
  have hxl:=h3 hlt
  obtain⟨v,hv⟩:∃v,E[x]? = some v:=⟨_,List.getElem?_eq_getElem (by omega)⟩
  have hh2:hop E (a+1) (j+1)=some v:=by rw[MS,hh];exact hv
  have d1:(0:Int)<=(x:Nat):=by omega
  have d2:((x:Nat):Int)<E.length:=by omega
  have HH:=hid hh2
  have HV:=hid hv
  clear yy hJ hh hh2 hv h1 h2 h3 hj2
  go_upto_region 4 with fail
  refine(wpIn_wide (n:=n)).1 ?_
  gi_wp2
  refine hR.mono ?_
  rintro e W3 (⟨rfl,hK3,-⟩|⟨rfl,hX3⟩)
  ·obtain⟨D',hD'⟩:=hK3
   obtain⟨g3,-⟩:=HL.out (j+1) D' W3 hD'
   have i2:=g3.c2
   have i3:=g3.ce x v HV.out
   have K3:=hid hD'
   clear hy hR g3 hD'
   gi_wp2
   go_wp2
   go_roundw
   case rel=>exact⟨j+1,v,D',by omega,by first|rfl|go_num,by first|rfl|go_num,HH.out,K3.out⟩
   case measure=>show kd-((j+1:Nat):Int).toNat<kd-(j:Int).toNat;omega
  ·clear hy hR
   gi_wp2
   go_wp2
   refine bodyPost_ret (results_none rfl _ _ _) rfl ?_
   exact⟨⟨_,rfl⟩,.inr hX3⟩
structure EA (gl lc ge ce:Nat) (L:List (Nd × Nat)) (E:List Nat) (w:World):Prop where
 row:Cw w (.slice (some ⟨gl,0,none⟩) L.length lc) L
 ends:Jo w (.slice (some ⟨ge,0,none⟩) E.length ce) E
theorem EA.below{gl lc ge ce:Nat}{L:List (Nd × Nat)}{E:List Nat}{w w':World}(h:EA gl lc ge ce L E w)(hB:Below w.heap.size w w'):EA gl lc ge ce L E w':=⟨h.row.below hB,h.ends.below hB⟩
theorem EA.gl{gl lc ge ce:Nat}{L:List (Nd × Nat)}{E:List Nat}{w:World}(h:EA gl lc ge ce L E w):gl<w.heap.size/\ge<w.heap.size:=by
 obtain⟨g,c,e,h1,_⟩:=h.row
 obtain⟨g',c',e',h1',_⟩:=h.ends
 simp only[Value.slice.injEq,Option.some.injEq,Addr.mk.injEq,true_and,and_true] at e e'
 rw[e.1,e'.1]
 exact⟨h1,h1'⟩
def MC(gl lc ge ce:Nat)(L:List (Nd × Nat))(E:List Nat)(n:Nd)(ks:Fo):Prop:=∀ (a h:Nat) (w:World),EA gl lc ge ce L E w->L[a]? = some (n,ks.len)->Df L E (a+1) ks->h+4*((AJ ks).length+1)<=1000000 ->
 Calls prog 27 #[.agg #[.slice (some ⟨gl,0,none⟩) L.length lc,.slice (some ⟨ge,0,none⟩) E.length ce],.int .i64 (a:Nat),.int .i64 (h:Nat)] w λe w'=>e=.returned (.int .i64 ((He n.kind ks.len ks 0 h (Ee n.kind h):Nat):Int))/\Below w.heap.size w w'
def OG(gl lc ge ce:Nat)(L:List (Nd × Nat))(E:List Nat):Fo->Prop
 | .nil=>True
 | .cons n ks r=>MC gl lc ge ce L E n ks/\OG gl lc ge ce L E r
structure Mq (B gl lc ge ce:Nat) (L:List (Nd × Nat)) (E:List Nat) (n:Nd) (a kd h0 R W0s:Nat) (w:World) (i:Nat) (D:Nat->Prop) (W:World):Prop where
 bel:Below B w W
 row:W.heap[B]? = some (.cells #[.slice (some ⟨gl,0,none⟩) L.length lc,.slice (some ⟨ge,0,none⟩) E.length ce] 41 (0,0))
 node:W.heap[B+2]? = some (.cells #[.int .i64 n.kind,.int .i64 n.a,.int .i64 (kd:Nat),.string n.text,.int .i64 n.int,.int .u64 n.bits] 48 (0,0))
 kr:W.heap[B+4]? = some (.cells #[.slice (some ⟨gl,0,none⟩) L.length lc,.slice (some ⟨ge,0,none⟩) E.length ce] 41 (0,0))
 ka:W.heap[B+5]? = some (.cells #[.int .i64 (a:Nat)] 3 (0,0))
 rin:EA gl lc ge ce L E W
 sz:W0s<=W.heap.size
 dd:∀k,D k↔k=B+1\/k=B+3
 st:∃ (r:Fo) (x h m U:Nat),r.len+i=kd/\hop E (a+1) i=some x/\Df L E x r/\OG gl lc ge ce L E r/\He n.kind kd r i h m=R/\h<=h0+i/\i<=U/\h0+4*(U+(AJ r).length+1)<=1000000/\m<=2000000/\W.heap[B+1]? = some (.cells #[.int .i64 (h:Nat)] 3 (0,0))/\W.heap[B+3]? = some (.cells #[.int .i64 (m:Nat)] 3 (0,0))
section
variable {B gl lc ge ce:Nat} {L:List (Nd × Nat)} {E:List Nat} {n:Nd} {a kd h0 R W0s:Nat} {w W W':World} {i:Nat} {D:Nat->Prop}
theorem Mq.keep(q:Mq B gl lc ge ce L E n a kd h0 R W0s w i D W)(hB0:gl<B/\ge<B)(hw:B+6<=W0s){S:Nat->Prop}(hU:It.AL S W W')(hS:∀k,S k->B+6<=k):Mq B gl lc ge ce L E n a kd h0 R W0s w i D W':=by
 have sz:=q.sz
 have key:∀k,k<B+6->W'.heap[k]? = W.heap[k]?:=λk hk=>hU.block k (by omega) (λe=>by have:=hS k e;omega)
 have hBW:Below B W W':=hU.below (by omega) (λk e=>by have:=hS k e;omega)
 have hr:EA gl lc ge ce L E W':=by
  obtain⟨⟨g,c,e,h1,h2,h3⟩,⟨g',c',e',h1',h3'⟩⟩:=q.rin
  simp only[Value.slice.injEq,Option.some.injEq,Addr.mk.injEq,true_and,and_true] at e e'
  obtain⟨rfl,rfl⟩:=e
  obtain⟨rfl,rfl⟩:=e'
  exact⟨⟨gl,lc,rfl,by have:=hBW.size;omega,h2,λi p hp j hj=>(hBW.cell (p:=⟨gl,_,none⟩) hB0.1).trans (h3 i p hp j hj)⟩,⟨ge,ce,rfl,by have:=hBW.size;omega,λi x hx=>(hBW.cell (p:=⟨ge,i,none⟩) hB0.2).trans (h3' i x hx)⟩⟩
 obtain⟨r,x,h,m,U,e1,e2,e3,e4,e5,e6,e7,e8,e9,e10,e11⟩:=q.st
 exact⟨q.bel.trans hBW,(key _ (by omega)).trans q.row,(key _ (by omega)).trans q.node,(key _ (by omega)).trans q.kr,(key _ (by omega)).trans q.ka,hr,Nat.le_trans sz hU.size,q.dd,⟨r,x,h,m,U,e1,e2,e3,e4,e5,e6,e7,e8,e9,(key _ (by omega)).trans e10,(key _ (by omega)).trans e11⟩⟩
theorem Mq.next(q:Mq B gl lc ge ce L E n a kd h0 R W0s w i D W)(hB0:gl<B/\ge<B)(hw:B+6<=W0s){W1:World}(hB1:Below W.heap.size W W1)(hU:It.AL (λk=>k=B+1\/k=B+3) W1 W'){r:Fo}{x h m U:Nat}(e1:r.len+(i+1)=kd)(e2:hop E (a+1) (i+1)=some x)(e3:Df L E x r)(e4:OG gl lc ge ce L E r)(e5:He n.kind kd r (i+1) h m=R)(e6:h<=h0+(i+1))(e7:i+1<=U)(e8:h0+4*(U+(AJ r).length+1)<=1000000)(e9:m<=2000000)(e10:W'.heap[B+1]? = some (.cells #[.int .i64 (h:Nat)] 3 (0,0)))(e11:W'.heap[B+3]? = some (.cells #[.int .i64 (m:Nat)] 3 (0,0))):Mq B gl lc ge ce L E n a kd h0 R W0s w (i+1) D W':=by
 have q1:=q.keep hB0 hw (It.AL.of_below (S:=λ_=>False) hB1) (λk e=>e.elim)
 have sz:=q1.sz
 have key:∀k,k<B+6->k≠B+1->k≠B+3->W'.heap[k]? = W1.heap[k]?:=λk hk n1 n3=>hU.block k (by omega) (λe=>by omega)
 have hBW:Below B W1 W':=hU.below (by omega) (λk e=>by omega)
 have hr:EA gl lc ge ce L E W':=by
  obtain⟨⟨g,c,e,h1,h2,h3⟩,⟨g',c',e',h1',h3'⟩⟩:=q1.rin
  simp only[Value.slice.injEq,Option.some.injEq,Addr.mk.injEq,true_and,and_true] at e e'
  obtain⟨rfl,rfl⟩:=e
  obtain⟨rfl,rfl⟩:=e'
  exact⟨⟨gl,lc,rfl,by have:=hBW.size;omega,h2,λi p hp j hj=>(hBW.cell (p:=⟨gl,_,none⟩) hB0.1).trans (h3 i p hp j hj)⟩,⟨ge,ce,rfl,by have:=hBW.size;omega,λi x hx=>(hBW.cell (p:=⟨ge,i,none⟩) hB0.2).trans (h3' i x hx)⟩⟩
 exact⟨q1.bel.trans hBW,(key _ (by omega) (by omega) (by omega)).trans q1.row,(key _ (by omega) (by omega) (by omega)).trans q1.node,(key _ (by omega) (by omega) (by omega)).trans q1.kr,(key _ (by omega) (by omega) (by omega)).trans q1.ka,hr,Nat.le_trans sz hU.size,q.dd,r,x,h,m,U,e1,e2,e3,e4,e5,e6,e7,e8,e9,e10,e11⟩
theorem Mq.gk(q:Mq B gl lc ge ce L E n a kd h0 R W0s w i D W){nd:Nd}(ha:L[a]? = some (nd,kd)):Qk (B+5) (B+4) gl lc ge ce L E a kd W:=by
 obtain⟨-,-,c2,-⟩:=q.rin.row.at ha
 obtain⟨g',c',e',h1',h3'⟩:=q.rin.ends
 simp only[Value.slice.injEq,Option.some.injEq,Addr.mk.injEq,true_and,and_true] at e'
 obtain⟨rfl,rfl⟩:=e'
 exact⟨AU q.ka 0,AU q.kr 0,AU q.kr 1,c2,h3'⟩
end
theorem Rj(t:Array Value)(p1 p2:Nat)(v1 v2:Value):((#[p1,p2]:Array Tmp).zip #[v1,v2]).foldl (λt (p,v)=>t.setIfInBounds p v) t=(t.setIfInBounds p1 v1).setIfInBounds p2 v2:=by
 simp
theorem fM(k:Int)(h:Nat):Ee k h<=h+3:=by
 unfold Ee
 split
 ·omega
 ·split <;> omega
theorem tT(k:Int)(kids nth:Nat):Dv k kids nth<=nth+3:=by
 unfold Dv
 split
 ·omega
 ·split
  ·split
   ·omega
   ·split <;> omega
  ·omega
theorem Sn:∀ (f:Fo) (kind:Int) (kids nth h m:Nat),He kind kids f nth h m<=max m (h+nth+4*(AJ f).length+3)
 | .nil,kind,kids,nth,h,m=>by unfold He;omega
 | .cons n ks r,kind,kids,nth,h,m=>by
  unfold He
  have hl:(AJ (Fo.cons n ks r)).length=1+(AJ ks).length+(AJ r).length:=by simp[AJ];omega
  rw[hl]
  have i1:=Sn ks n.kind ks.len 0 (h+Dv kind kids nth) (Ee n.kind (h+Dv kind kids nth))
  have i2:=Sn r kind kids (nth+1) (if n.kind=6 then h+1 else h) (max m (He n.kind ks.len ks 0 (h+Dv kind kids nth) (Ee n.kind (h+Dv kind kids nth))))
  have a1:=tT kind kids nth
  have a2:=fM n.kind (h+Dv kind kids nth)
  have a3:(if n.kind=6 then h+1 else h)<=h+1:=by split <;> omega
  omega
theorem kT(w:World)(o0 o1 o2 o3 o4 o5:Obj)(k:Nat)(hk:k<6):((((((w.alloc o0).alloc o1).alloc o2).alloc o3).alloc o4).alloc o5).heap[w.heap.size+k]? = (#[o0,o1,o2,o3,o4,o5]:Array Obj)[k]?:=by
 have h0:=z5z w o0
 have h1:=z5z (w.alloc o0) o1
 have h2:=z5z ((w.alloc o0).alloc o1) o2
 have h3:=z5z (((w.alloc o0).alloc o1).alloc o2) o3
 have h4:=z5z ((((w.alloc o0).alloc o1).alloc o2).alloc o3) o4
 have h5:=z5z (((((w.alloc o0).alloc o1).alloc o2).alloc o3).alloc o4) o5
 simp only[z1z,Nat.add_assoc,z9z] at h1 h2 h3 h4 h5
 rcases(by omega:k=0\/k=1\/k=2\/k=3\/k=4\/k=5) with rfl|rfl|rfl|rfl|rfl|rfl
 ·repeat rw[z7z _ _ _ (by simp only[z1z];omega)]
  exact h0
 ·repeat rw[z7z _ _ _ (by simp only[z1z];omega)]
  exact h1
 ·repeat rw[z7z _ _ _ (by simp only[z1z];omega)]
  exact h2
 ·repeat rw[z7z _ _ _ (by simp only[z1z];omega)]
  exact h3
 ·repeat rw[z7z _ _ _ (by simp only[z1z];omega)]
  exact h4
 ·exact h5
theorem lI(w:World)(o0 o1 o2 o3 o4 o5:Obj):Below w.heap.size w ((((((w.alloc o0).alloc o1).alloc o2).alloc o3).alloc o4).alloc o5):=((((((Below.refl _ w).alloc (z3z _) _).alloc (by simp only[z1z];omega) _).alloc (by simp only[z1z];omega) _).alloc (by simp only[z1z];omega) _).alloc (by simp only[z1z];omega) _).alloc (by simp only[z1z];omega) _
theorem Mq.fin{B gl lc ge ce:Nat}{L:List (Nd × Nat)}{E:List Nat}{n:Nd}{a kd h0 R W0s:Nat}{w W W1 W' W0:World}{i:Nat}{D:Nat->Prop}(q:Mq B gl lc ge ce L E n a kd h0 R W0s w i D W)(hB0:gl<B/\ge<B)(hW0:W0.heap.size=B+6)(hs:W0.heap.size+2<=W.heap.size)(hB1:Below W.heap.size W W1)(hU:It.AL (λk=>k=B+1\/k=B+3) W1 W')(q2:Mq B gl lc ge ce L E n a kd h0 R W0s w (i+1) D W')(act:Act):Mf (W0.heap.size+1) W0.heap.size D W (λW'=>∃D',Mq B gl lc ge ce L E n a kd h0 R W0s w (i+1) D' W') (λ_ _=>False) .normal act W':=by
 have key:∀k,k<W.heap.size->k≠B+1->k≠B+3->W'.heap[k]? = W.heap[k]?:=λk hk n1 n3=>(hU.block k (Nat.lt_of_lt_of_le hk hB1.size) (λe=>by omega)).trans (hB1.block k hk)
 exact⟨⟨key _ (by omega) (by omega) (by omega),key _ (by omega) (by omega) (by omega)⟩,λk hk1 hk2=>key k hk1 (λe=>hk2 ((q.dd k).2 (.inl e))) (λe=>hk2 ((q.dd k).2 (.inr e))),D,q2⟩
theorem YA(gl lc ge ce:Nat)(L:List (Nd × Nat))(E:List Nat)(hok:Gy L E)(n:Nd)(ks:Fo)(hks:OG gl lc ge ce L E ks):MC gl lc ge ce L E n ks:=by
 intro a h w hR ha hLi hb
 obtain⟨hgl,hge⟩:=hR.gl
 obtain⟨c0,c1,c2,c3,c4,c5⟩:=hR.row.at ha
 simp only at c0 c1 c2 c3 c4 c5
 have hLl:L.length<=1000000:=by obtain⟨_,_,_,_,h,_⟩:=hR.row;exact h
 have hal:=(z8z.1 ha).1
 have o1:(0:Int)<=(a:Nat):=by omega
 have o2:((a:Nat):Int)<L.length:=by omega
 have co:=λW=>qY n.kind h (by omega) W
 obtain⟨kd,hkd⟩:∃kd,ks.len=kd:=⟨_,rfl⟩
 rw[hkd] at ha c2 ⊢
 obtain⟨R,hRe⟩:∃R,He n.kind kd ks 0 h (Ee n.kind h)=R:=⟨_,rfl⟩
 have hm0:Ee n.kind h<=2000000:=by
  unfold Ee
  split
  ·omega
  ·split <;> omega
 rw[hRe]
 have b2:Below w.heap.size w ((w.alloc (.cells #[.slice (some ⟨gl,0,none⟩) L.length lc,.slice (some ⟨ge,0,none⟩) E.length ce] 41)).alloc (.cells #[.int .i64 (h:Nat)] 3)):=((Below.refl _ w).alloc (z3z _) _).alloc (by simp) _
 have d0:=(b2.cell (p:=⟨gl,a*6,none⟩) hgl).trans c0
 have d1:=(b2.cell (p:=⟨gl,a*6+1,none⟩) hgl).trans c1
 have d2:=(b2.cell (p:=⟨gl,a*6+2,none⟩) hgl).trans c2
 have d3:=(b2.cell (p:=⟨gl,a*6+3,none⟩) hgl).trans c3
 have d4:=(b2.cell (p:=⟨gl,a*6+4,none⟩) hgl).trans c4
 have d5:=(b2.cell (p:=⟨gl,a*6+5,none⟩) hgl).trans c5
 have ck:=λW=>Ud W (.slice (some ⟨gl,0,none⟩) L.length lc) (.slice (some ⟨ge,0,none⟩) E.length ce) ⟨_,_,_,rfl⟩ ⟨_,_,_,rfl⟩ a
 have H:=hid (z0z hR (z0z ha (z0z hLi (z0z hb (z0z hks (z0z hRe (z0z hm0 (z0z hkd hok))))))))
 clear hR ha hLi hb hks hRe hm0 hkd hok c0 c1 c2 c3 c4 c5 b2
 generalize Ee n.kind h=m0 at *
 refine(callsIn_wide (n:=9)).1 ?_
 refine callsIn_of_wp_marks func27 rfl trivial ?_ rfl
 refine wpIn_wide.2 ?_
 simp only[ntmps27,List.size_toArray,List.length_cons,List.length_nil,z9z,Nat.reduceSub,Array.replicate_succ,Array.replicate_zero,List.push_toArray,List.append_toArray,List.nil_append,List.cons_append]
 go_wp2_with (first|(go_at_call 44;(with_reducible refine(co _).mono ?_);rintro e w1 ⟨rfl,hw⟩;(have hw':=hw.symm);subst hw';clear hw co)|(go_at_call 16;(with_reducible refine(ck _).mono ?_);rintro e w1 ⟨rfl,hw⟩;(have hw':=hw.symm);subst hw';clear hw ck))
 obtain⟨hR,ha,hLi,hb,hks,hRe,hm0,hkd,hok⟩:=H.out
 obtain⟨B,hBe⟩:∃B,w.heap.size=B:=⟨_,rfl⟩
 have q0:Mq B gl lc ge ce L E n a kd h R (B+6) w 0 (λk=>k=B+1\/k=B+3) (z2z (z2z (z2z (z2z (z2z (w.alloc (.cells #[.slice (some ⟨gl,0,none⟩) L.length lc,.slice (some ⟨ge,0,none⟩) E.length ce] 41)) (.cells #[.int .i64 (h:Nat)] 3)) (.cells #[.int .i64 n.kind,.int .i64 n.a,.int .i64 (kd:Nat),.string n.text,.int .i64 n.int,.int .u64 n.bits] 48)) (.cells #[.int .i64 (m0:Nat)] 3)) (.cells #[.slice (some ⟨gl,0,none⟩) L.length lc,.slice (some ⟨ge,0,none⟩) E.length ce] 41)) (.cells #[.int .i64 (a:Nat)] 3)):=by
  subst hBe
  have b6:=lI w (.cells #[.slice (some ⟨gl,0,none⟩) L.length lc,.slice (some ⟨ge,0,none⟩) E.length ce] 41) (.cells #[.int .i64 (h:Nat)] 3) (.cells #[.int .i64 n.kind,.int .i64 n.a,.int .i64 (kd:Nat),.string n.text,.int .i64 n.int,.int .u64 n.bits] 48) (.cells #[.int .i64 (m0:Nat)] 3) (.cells #[.slice (some ⟨gl,0,none⟩) L.length lc,.slice (some ⟨ge,0,none⟩) E.length ce] 41) (.cells #[.int .i64 (a:Nat)] 3)
  have k6:=kT w (.cells #[.slice (some ⟨gl,0,none⟩) L.length lc,.slice (some ⟨ge,0,none⟩) E.length ce] 41) (.cells #[.int .i64 (h:Nat)] 3) (.cells #[.int .i64 n.kind,.int .i64 n.a,.int .i64 (kd:Nat),.string n.text,.int .i64 n.int,.int .u64 n.bits] 48) (.cells #[.int .i64 (m0:Nat)] 3) (.cells #[.slice (some ⟨gl,0,none⟩) L.length lc,.slice (some ⟨ge,0,none⟩) E.length ce] 41) (.cells #[.int .i64 (a:Nat)] 3)
  exact⟨b6,k6 0 (by omega),k6 2 (by omega),k6 4 (by omega),k6 5 (by omega),hR.below b6,by simp,λk=>Iff.rfl,ks,a+1,h,m0,0,by omega,rfl,hLi,hks,hRe,by omega,by omega,by omega,hm0,k6 1 (by omega),k6 3 (by omega)⟩
 have hgl2:gl<B/\ge<B:=by omega
 have ec:(z2z (z2z (z2z (z2z (z2z (w.alloc (.cells #[.slice (some ⟨gl,0,none⟩) L.length lc,.slice (some ⟨ge,0,none⟩) E.length ce] 41)) (.cells #[.int .i64 (h:Nat)] 3)) (.cells #[.int .i64 n.kind,.int .i64 n.a,.int .i64 (kd:Nat),.string n.text,.int .i64 n.int,.int .u64 n.bits] 48)) (.cells #[.int .i64 (m0:Nat)] 3)) (.cells #[.slice (some ⟨gl,0,none⟩) L.length lc,.slice (some ⟨ge,0,none⟩) E.length ce] 41)) (.cells #[.int .i64 (a:Nat)] 3)).heap.size=B+6:=by simp[<- hBe]
 have HBE:=hid hBe
 have HQ:=hid q0
 have HE:=hid ec
 have HA:=hid ha
 have HO:=hid hok
 clear q0 ec hR ha hLi hb hks hRe hm0 hkd hok H d0 d1 d2 d3 d4 d5 o1 o2 hal hgl hge
 simp only[hBe]
 try simp only[hBe] at HQ HE
 clear hBe
 generalize z2z _ (Obj.cells #[Value.int z4z (a:Nat)] 3)=W0 at *
 refine OX (TQ (B+5) (B+4) gl lc ge ce L E HO.out hLl a kd n HA.out) VF rfl (Mq B gl lc ge ce L E n a kd h R (B+6) w) (λ_ _=>False) ?hL ?hI ?hIx _ HQ.out ?A ?hsz ?assign ?body ?done ?stop
 case assign=>
  intro L' i hi W K hK
  rw[Lr]
  simp only[Rj,List.setIfInBounds_toArray,List.set_cons_succ,List.set_cons_zero]
  gi_wp2_with (simp only[Oper.semAt];go_simp)
  exact hK
 case hL=>
  intro i D W q
  refine⟨q.gk HA.out,λk hk=>?_⟩
  have:=q.sz
  rcases(q.dd k).1 hk with rfl|rfl <;> omega
 case hI=>
  intro i D W W' q hu
  exact q.keep hgl2 (z3z _) hu (λk e=>by have:=HE.out;omega)
 case hIx=>intro c W W' h;exact h.elim
 case hsz=>intro i hi;rw[Lr];rfl
 case stop=>intro c W h;exact h.elim
 case done=>
  intro D W q hD
  rw[Ky] at q
  obtain⟨r,x,h',m,U,e1,e2,e3,e4,e5,e6,e7,e8,e9,e10,e11⟩:=q.st
  have hr:r=.nil:=by
   cases r with
   | nil=>rfl
   | cons _ _ _=>simp[Fo.len] at e1
  subst hr
  have hm:m=R:=e5
  subst hm
  have cm:=AU e11 0
  have HB:=hid q.bel
  have HD:=hid hD
  clear e1 e2 e3 e4 e5 e6 e7 e8 e9 e10 e11 q hD
  go_wp2
  rw[HE.out]
  have hD2:=HD.out
  rw[HE.out] at hD2
  refine⟨by simp,.inl ⟨_,_,rfl,run_takeDeferred hD2,?_⟩⟩
  have u3:It.AL (λk=>k=B+6) W (W.putObj (B+6) (.deferred none)):=It.Ip (S:=λk=>k=B+6) rfl _
  refine⟨_,results_tmp rfl _ _ _,rfl,?_⟩
  rw[HBE.out]
  exact HB.out.trans (u3.below (by have:=(Array.getElem?_eq_some_iff.1 hD2).1;omega) (λk e=>by omega))
 case body=>
  intro L' i hi D W hLe q hs hlp
  subst hLe
  rw[Ky] at hi
  obtain⟨r,x,h',m,U,e1,e2,e3,e4,e5,e6,e7,e8,e9,e10,e11⟩:=q.st
  have hBW:Below W.heap.size W W.drew:=(Below.refl _ W).drew
  cases r with
  | nil=>simp[Fo.len] at e1;omega
  | cons n2 ks2 r2=>
  obtain⟨g1,g2⟩:=e3.head
  obtain⟨hmc,hmr⟩:=e4
  unfold He at e5
  have hx2:hop E (a+1) (i+1)=some (x+1+(AJ ks2).length):=by rw[MS,e2];exact g2
  have hrl:(AJ (Fo.cons n2 ks2 r2)).length=1+(AJ ks2).length+(AJ r2).length:=by simp[AJ];omega
  have hlen:=LQ (Fo.cons n2 ks2 r2)
  rw[hrl] at e8 hlen
  have hab:Dv n.kind kd i<=i+3:=by
   unfold Dv
   split
   ·omega
   ·split
    ·split
     ·omega
     ·split <;> omega
    ·omega
  have cab:=λW=>zJ n kd i (by omega) (by omega) W
  generalize Dv n.kind kd i=ab at *
  have hmc2:=λW (hr:EA gl lc ge ce L E W)=>hmc x (h'+ab) W hr g1 e3.kids (by omega)
  obtain⟨v,hv⟩:∃v,He n2.kind ks2.len ks2 0 (h'+ab) (Ee n2.kind (h'+ab))=v:=⟨_,rfl⟩
  rw[hv] at hmc2 e5
  have hvb:v<=2000000:=by
   have i1:=Sn ks2 n2.kind ks2.len 0 (h'+ab) (Ee n2.kind (h'+ab))
   have i2:=fM n2.kind (h'+ab)
   rw[hv] at i1
   omega
  have hxl:=(z8z.1 g1).1
  have hSt:∀Wx,Below W.heap.size W Wx->(λw'=>w'.cell? ⟨B+3,0,none⟩=some (.int .i64 (m:Nat))/\w'.cell? ⟨B,0,none⟩=some (.slice (some ⟨gl,0,none⟩) L.length lc)/\w'.cell? ⟨B,1,none⟩=some (.slice (some ⟨ge,0,none⟩) E.length ce)/\w'.cell? ⟨B+1,0,none⟩=some (.int .i64 (h':Nat))/\w'.cell? ⟨B+2,0,none⟩=some (.int .i64 n.kind)/\w'.cell? ⟨B+2,1,none⟩=some (.int .i64 n.a)/\w'.cell? ⟨B+2,2,none⟩=some (.int .i64 (kd:Nat))/\w'.cell? ⟨B+2,3,none⟩=some (.string n.text)/\w'.cell? ⟨B+2,4,none⟩=some (.int .i64 n.int)/\w'.cell? ⟨B+2,5,none⟩=some (.int .u64 n.bits)) Wx:=λWx hb=>by
   have kk:∀k:Nat,k<B+6->Wx.heap[k]? = W.heap[k]?:=λk hk=>hb.block k (by have:=q.sz;omega)
   exact⟨AU ((kk _ (by omega)).trans e11) 0,AU ((kk _ (by omega)).trans q.row) 0,AU ((kk _ (by omega)).trans q.row) 1,AU ((kk _ (by omega)).trans e10) 0,AU ((kk _ (by omega)).trans q.node) 0,AU ((kk _ (by omega)).trans q.node) 1,AU ((kk _ (by omega)).trans q.node) 2,AU ((kk _ (by omega)).trans q.node) 3,AU ((kk _ (by omega)).trans q.node) 4,AU ((kk _ (by omega)).trans q.node) 5⟩
  have ow:z4z.wrap ((h':Int)+ab)=((h'+ab:Nat):Int):=by rw[z6z];omega
  have HST:=hid hSt
  have HQ2:=hid q
  have HMC:=hid hmc2
  have HF:=hid (z0z e1 (z0z hx2 (z0z e3.rest (z0z hmr (z0z e5 (z0z e6 (z0z e7 (z0z e8 (z0z e9 (z0z e10 e11))))))))))
  have HG:=hid g1
  simp only[e2,Option.getD_some]
  clear hSt q hmc hmc2 e1 e2 e3 hmr e5 e6 e7 e8 e9 e10 e11 g1 g2 hx2 hv hrl
  gi_wp2_with (simp only[Oper.semAt];go_simp)
  refine It.YE (z:=10) (S:=(λw'=>w'.cell? ⟨B+3,0,none⟩=some (.int .i64 (m:Nat))/\w'.cell? ⟨B,0,none⟩=some (.slice (some ⟨gl,0,none⟩) L.length lc)/\w'.cell? ⟨B,1,none⟩=some (.slice (some ⟨ge,0,none⟩) E.length ce)/\w'.cell? ⟨B+1,0,none⟩=some (.int .i64 (h':Nat))/\w'.cell? ⟨B+2,0,none⟩=some (.int .i64 n.kind)/\w'.cell? ⟨B+2,1,none⟩=some (.int .i64 n.a)/\w'.cell? ⟨B+2,2,none⟩=some (.int .i64 (kd:Nat))/\w'.cell? ⟨B+2,3,none⟩=some (.string n.text)/\w'.cell? ⟨B+2,4,none⟩=some (.int .i64 n.int)/\w'.cell? ⟨B+2,5,none⟩=some (.int .u64 n.bits))) (by kernel_rfl) (by kernel_rfl) ?_
  have hS:=HST.out _ hBW
  iterate 6 ((refine It.nL 0 ?_ rfl (by kernel_rfl) (λ_ _ _ h=>h) (Or.inl ⟨by rfl,?_⟩) hS ?_);rotate_left;(focus (intro w' hSw;(obtain⟨s0,s1,s2,s3,s4,s5,s6,s7,s8,s9⟩:=hSw);go_simp;(try with_reducible rfl)));(try simp only[Act.put,zx1,zx2,zx3,zx4,zx5,zx6]))
  refine It.Aa (i:=6) (by kernel_rfl) rfl rfl (λK hK=>?_)
  refine It.AZ (λc h=>by cases h) ?_
  have HK:=hid hK
  clear hK
  go_simp
  refine(cab _).mono ?_
  rintro e w7 ⟨rfl,hB7⟩
  have b7:=hBW.trans (hB7.mono hBW.size)
  refine HK.out _ _ (.inr (HST.out _ b7)) ?_
  clear HK
  (try simp only[Act.put,zx1,zx2,zx3,zx4,zx5,zx6])
  refine It.Aa (i:=7) (by kernel_rfl) rfl rfl (λK hK=>?_)
  refine It.AZ (λc h=>by cases h) ?_
  have HK:=hid hK
  clear hK
  go_simp
  refine HK.out _ _ (.inr (HST.out _ b7)) ?_
  clear HK
  (try simp only[Act.put,zx1,zx2,zx3,zx4,zx5,zx6])
  refine It.Aa (i:=8) (by kernel_rfl) rfl rfl (λK hK=>?_)
  refine It.AZ (λc h=>by cases h) ?_
  have HK:=hid hK
  clear hK
  go_simp
  refine(HMC.out _ (HQ2.out.rin.below b7)).mono ?_
  rintro e w8 ⟨rfl,hB8⟩
  have b8:=b7.trans (hB8.mono b7.size)
  refine HK.out _ _ (.inr (HST.out _ b8)) ?_
  clear HK
  (try simp only[Act.put,zx1,zx2,zx3,zx4,zx5,zx6])
  refine It.Aa (i:=9) (by kernel_rfl) rfl rfl (λK hK=>?_)
  refine It.AZ (λc h=>by cases h) ?_
  have HK:=hid hK
  clear hK
  go_simp
  refine HK.out _ _ (.inr (HST.out _ b8)) ?_
  clear HK
  (try simp only[Act.put,zx1,zx2,zx3,zx4,zx5,zx6])
  obtain⟨f1,f2,f3,f4,f5,f6,f7,f8,f9,f10,f11⟩:=HF.out
  have kk:∀k:Nat,k<B+6->w8.heap[k]? = W.heap[k]?:=λk hk=>b8.block k (by have:=HQ2.out.sz;omega)
  have y3:=(kk (B+3) (by omega)).trans f11
  have y1:=(kk (B+1) (by omega)).trans f10
  have y0:=(kk B (by omega)).trans HQ2.out.row
  have s3:=AU y3 0
  change _=some (Value.int .i64 (m:Nat)) at s3
  have z3:=thaw y3 0
  have hmx:max ((m:Nat):Int) v=((max m v:Nat):Int):=by omega
  refine It.Aa (i:=10) (by kernel_rfl) rfl rfl (λK hK=>?_)
  refine It.AZ (λc h=>by cases h) ?_
  have HK:=hid hK
  clear hK
  go_simp
  refine HK.out _ _ (.inl rfl) ?_
  (try simp only[Act.put,zx1,zx2,zx3,zx4,zx5,zx6])
  refine It.EU (by kernel_rfl) ?_ _
  clear HK
  have u9:It.AL (λk=>k=B+1\/k=B+3) w8 (w8.setCell ⟨B+3,0,none⟩ (.int .i64 ((max m v:Nat):Int))):=(It.AL.refl _ _).setCell (p:=⟨B+3,0,none⟩) (.inl (.inr rfl)) _
  have x3:=Io (c:=[.int .i64 (m:Nat)]) y3 0 (.int .i64 ((max m v:Nat):Int))
  have x1:=(z10z w8 ⟨B+3,0,none⟩ (.int .i64 ((max m v:Nat):Int)) (B+1) (by show B+1≠B+3;omega)).trans y1
  have x0:=(z10z w8 ⟨B+3,0,none⟩ (.int .i64 ((max m v:Nat):Int)) B (by show B≠B+3;omega)).trans y0
  have hsz9:W.heap.size<=w8.heap.size:=b8.size
  have hr8:=HQ2.out.rin.below b8
  obtain⟨hg8,_⟩:=hr8.gl
  obtain⟨k0,-⟩:=hr8.row.at HG.out
  simp only at k0
  have k9:(w8.setCell ⟨B+3,0,none⟩ (.int .i64 ((max m v:Nat):Int))).cell? ⟨gl,x*6,none⟩=some (.int .i64 n2.kind):=by
   have:(w8.setCell ⟨B+3,0,none⟩ (.int .i64 ((max m v:Nat):Int))).heap[gl]? = w8.heap[gl]?:=z10z _ _ _ _ (by show gl≠B+3;omega)
   simp only[World.cell?,this] at k0 ⊢
   exact k0
  have hv2:max m v<=2000000:=by
   have:v<=2000000:=hvb
   omega
  simp only[Nat.add_assoc,z9z]
  generalize hW9:w8.setCell ⟨B+3,0,none⟩ (.int .i64 ((max m v:Nat):Int))=W9 at *
  have j0:=AU x0 0
  change _=some (Value.slice (some ⟨gl,0,none⟩) L.length lc) at j0
  have j1:=AU x1 0
  change _=some (Value.int .i64 (h':Nat)) at j1
  have jz:=thaw x1 0
  have n0:(0:Int)<=(x:Nat):=by omega
  have n1:((x:Nat):Int)<L.length:=by omega
  have oh:z4z.wrap ((h':Int)+1)=((h'+1:Nat):Int):=by rw[z6z];omega
  have HW:=hid (z0z u9 (z0z x3 (z0z x1 b8)))
  clear hS y3 y1 y0 s3 z3 hmx kk u9 x3 x1 x0 hr8 k0 hg8 hW9 b7 hB7 hB8
  by_cases hk6:n2.kind=6
  case neg=>
   have c6:(n2.kind==6)=false:=by simpa using hk6
   obtain⟨u9,x3,x1,b8'⟩:=HW.out
   rw[if_neg hk6] at f5
   have fin:=hid (Mq.fin HQ2.out hgl2 HE.out hs b8' u9 (HQ2.out.next hgl2 (z3z _) b8' u9 (U:=U+1+(AJ ks2).length) (by simp only[Fo.len] at f1;omega) f2 f3 f4 f5 (by omega) (by omega) (by omega) hv2 x1 x3))
   clear u9 x3 x1 b8' HW f1 f2 f3 f4 f5 f6 f7 f8 f9 f10 f11 HQ2 HF HST HMC HG
   gi_wp2_with (simp only[Oper.semAt];go_simp)
   exact fin.out _
  case pos=>
   have c6:(n2.kind==6)=true:=by simpa using hk6
   obtain⟨u9,x3,x1,b8'⟩:=HW.out
   rw[if_pos hk6] at f5
   have u10:It.AL (λk=>k=B+1\/k=B+3) w8 (W9.setCell ⟨B+1,0,none⟩ (.int .i64 ((h'+1:Nat):Int))):=u9.trans' ((It.AL.refl _ _).setCell (p:=⟨B+1,0,none⟩) (.inl (.inl rfl)) _)
   have x10:=Io (c:=[.int .i64 (h':Nat)]) x1 0 (.int .i64 ((h'+1:Nat):Int))
   have x30:=(z10z W9 ⟨B+1,0,none⟩ (.int .i64 ((h'+1:Nat):Int)) (B+3) (by show B+3≠B+1;omega)).trans x3
   have fin:=hid (Mq.fin HQ2.out hgl2 HE.out hs b8' u10 (HQ2.out.next hgl2 (z3z _) b8' u10 (U:=U+1+(AJ ks2).length) (by simp only[Fo.len] at f1;omega) f2 f3 f4 f5 (by omega) (by omega) (by omega) hv2 x10 x30))
   clear u9 x3 x1 b8' HW f1 f2 f3 f4 f5 f6 f7 f8 f9 f10 f11 HQ2 HF HST HMC HG u10 x10 x30
   gi_wp2_with (simp only[Oper.semAt];go_simp)
   exact fin.out _
theorem Ui(gl lc ge ce:Nat)(L:List (Nd × Nat))(E:List Nat)(hok:Gy L E):∀f:Fo,OG gl lc ge ce L E f
 | .nil=>trivial
 | .cons n ks r=>⟨YA gl lc ge ce L E hok n ks (Ui gl lc ge ce L E hok ks),Ui gl lc ge ce L E hok r⟩
theorem dO(gl lc ge ce:Nat)(L:List (Nd × Nat))(E:List Nat)(hok:Gy L E)(n:Nd)(ks:Fo)(a:Nat)(w:World)(hR:EA gl lc ge ce L E w)(ha:L[a]? = some (n,ks.len))(hLi:Df L E (a+1) ks)(hk:0<ks.len)(hb:ks.len+4*((AJ ks).length+1)<=1000000) :
  Calls prog 17 #[.agg #[.slice (some ⟨gl,0,none⟩) L.length lc,.slice (some ⟨ge,0,none⟩) E.length ce],.int .i64 (a:Nat)] w λe w'=>e=.returned (.int .i64 ((Iq n ks:Nat):Int))/\Below w.heap.size w w':=by
 obtain⟨hgl,hge⟩:=hR.gl
 have b1:Below w.heap.size w (w.alloc (.cells #[.slice (some ⟨gl,0,none⟩) L.length lc,.slice (some ⟨ge,0,none⟩) E.length ce] 41)):=(Below.refl _ w).alloc (z3z _) _
 obtain⟨-,-,c2,-⟩:=(hR.below b1).row.at ha
 simp only at c2
 have hal:=(z8z.1 ha).1
 have o1:(0:Int)<=(a:Nat):=by omega
 have o2:((a:Nat):Int)<L.length:=by omega
 have cm:=YA gl lc ge ce L E hok n ks (Ui gl lc ge ce L E hok ks) a (ks.len-1) _ (hR.below b1) ha hLi (by omega)
 obtain⟨q,hq⟩:∃q,Iq n ks=q:=⟨_,rfl⟩
 rw[hq]
 unfold Iq at hq
 generalize He n.kind ks.len ks 0 (ks.len-1) (Ee n.kind (ks.len-1))=v at *
 have o3:z4z.wrap ((ks.len:Int)-1)=((ks.len-1:Nat):Int):=by rw[z6z];omega
 have hmx:max ((ks.len-1:Nat):Int) v=(q:Nat):=by omega
 generalize ks.len-1=p at *
 clear hR ha hLi hok hb hk hq hal
 go_enter func17,ntmps17
 go_wp2_with (go_at_call 27;(with_reducible refine cm.mono ?_);rintro e w1 ⟨rfl,hB⟩;(have HB:=hid (b1.trans (hB.mono b1.size)));clear hB cm)
 go_ret
 exact⟨by first|rfl|(rw[<- hmx];rfl),HB.out⟩
theorem Vj:(prog.underlying 87).map (λd=>match d with | .map k _=>k==48|_=>false)=some true:=by kernel_rfl
theorem zC{w:World}{b:Nat}{l:List ((Nd × Nat) × Nat)}(h:Ej w b l)(ty:TypeId):(Builtin.len_ #[87] ty #[.map (some b)]).run prog w=.ok (goInt l.length) w:=by
 obtain⟨es,clock,h1,h2,_⟩:=h
 have e:es.size=l.length:=by
  have:=congrArg List.length h2
  simpa using this
 cases hu:prog.underlying 87 with
 | none=>have:=Vj;rw[hu] at this;cases this
 | some d=>
  have:=Vj
  rw[hu] at this
  cases d <;> simp at this
  simp[Builtin.len_,run_underlying hu,MapKept.run_getObj_map h1,Result.andThen,e]
end Go.Proofs.YtjplieobnknnpaaGreatDoor.W.Tr

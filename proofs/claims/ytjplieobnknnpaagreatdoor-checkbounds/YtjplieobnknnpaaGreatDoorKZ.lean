import Derived.Test.YtjplieobnknnpaaGreatDoorKD
import Derived.Test.YtjplieobnknnpaaGreatDoorKA
import Derived.Test.YtjplieobnknnpaaGreatDoorKV
import Derived.Test.YtjplieobnknnpaaGreatDoorShelfS
import Derived.Lib.OwnBridge
import Derived.Test.YtjplieobnknnpaaGreatDoorKT
open List renaming length_cons → z4z, length_nil → z5z, take_of_length_le → z7z
open Nat renaming le_trans → z1z, le_refl → z2z, reduceAdd → z3z
open Go.World renaming cell?_alloc_new → z6z
open And renaming intro → z0z
open Go.Proofs.Tryz
set_option maxRecDepth 1000000
set_option maxHeartbeats 8000000
namespace Go.Proofs.YtjplieobnknnpaaGreatDoor.W.Tr
set_option linter.unusedVariables false
open Go.ChangeShapes Go.WideShapes Go.RowKit Go.Shelf
set_option linter.unusedSimpArgs false
def iv(k:Nat):Value:=.int .i64 (k:Nat)
theorem oL:(prog.info? 3).map (λi=>(i.zero,i.size,i.bytes))=some (some (.int .i64 0),1,8):=by kernel_rfl
theorem AAH:prog.underlying 39=some (.slice 3):=by kernel_rfl
open Go.ChangeShapes Go.WideShapes Go.RowKit Go.Shelf Go.ChangeMaps Ck
theorem ACe(x:ByteArray)(W:World):Calls prog 28 #[.string x] W λe w'=>e=.returned (.bool (OD x.toList))/\w'=W:=by
 unfold OD
 cases h0:(x.toList==[43])
 rotate_left
 ·go_enter func28,ntmps28
  go_wp2
  go_ret
  exact⟨rfl,rfl⟩
 cases h1:(x.toList==[45])
 rotate_left
 ·go_enter func28,ntmps28
  go_wp2
  go_ret
  exact⟨rfl,rfl⟩
 cases h2:(x.toList==[42])
 rotate_left
 ·go_enter func28,ntmps28
  go_wp2
  go_ret
  exact⟨rfl,rfl⟩
 cases h3:(x.toList==[47])
 rotate_left
 ·go_enter func28,ntmps28
  go_wp2
  go_ret
  exact⟨rfl,rfl⟩
 cases h4:(x.toList==[47,47])
 rotate_left
 ·go_enter func28,ntmps28
  go_wp2
  go_ret
  exact⟨rfl,rfl⟩
 cases h5:(x.toList==[37])
 rotate_left
 ·go_enter func28,ntmps28
  go_wp2
  go_ret
  exact⟨rfl,rfl⟩
 cases h6:(x.toList==[60])
 rotate_left
 ·go_enter func28,ntmps28
  go_wp2
  go_ret
  exact⟨rfl,rfl⟩
 cases h7:(x.toList==[60,61])
 rotate_left
 ·go_enter func28,ntmps28
  go_wp2
  go_ret
  exact⟨rfl,rfl⟩
 cases h8:(x.toList==[62])
 rotate_left
 ·go_enter func28,ntmps28
  go_wp2
  go_ret
  exact⟨rfl,rfl⟩
 cases h9:(x.toList==[62,61])
 rotate_left
 ·go_enter func28,ntmps28
  go_wp2
  go_ret
  exact⟨rfl,rfl⟩
 cases h10:(x.toList==[61,61])
 rotate_left
 ·go_enter func28,ntmps28
  go_wp2
  go_ret
  exact⟨rfl,rfl⟩
 cases h11:(x.toList==[33,61])
 rotate_left
 ·go_enter func28,ntmps28
  go_wp2
  go_ret
  exact⟨rfl,rfl⟩
 go_enter func28,ntmps28
 go_wp2
 go_ret
 exact⟨rfl,rfl⟩
def Kn(k:Int):Value:=.int .i64 k
theorem jX(W:World)(ty:TypeId)(v:Value)(n:Nat)(xs:List Value){B0:Nat}(hown:W.ownsRow B0 3 1 v n xs)(hB:B0<=W.heap.size)(x:Int)(hn:n<=4000000):∃v' w',(Builtin.append_ #[39,39] ty #[v,.slice (some ⟨W.heap.size,0,none⟩) 1 1]).run prog (W.alloc (.cells #[.int .i64 x] 3))=.ok v' w'/\w'.ownsRow B0 3 1 v' (n+1) (xs++[Kn x])/\(W.alloc (.cells #[.int .i64 x] 3)).grownBy w' v.ownBlock:=by
 obtain⟨i0,hi,hz0,hz1,hz2⟩:=info_parts oL
 have e0:=z6z W #[.int .i64 x] 3
 have ho:=hown.alloc (.cells #[.int .i64 x] 3)
 obtain⟨v',w',h1,h2,h3,_,h5⟩:=run_append_own_at (P:=prog) (W.alloc (.cells #[.int .i64 x] 3)) B0 39 ty 3 i0 _ 1 8 AAH hi hz0 hz1 hz2 rfl (by omega) v n xs ho ⟨W.heap.size,0,none⟩ 1 1 [Kn x] (by simp) (by
  intro j u hj
  have e1:((⟨W.heap.size,0,none⟩:Addr).add j)=⟨W.heap.size,j,none⟩:=by simp[Addr.add];intro e;exact e.symm
  rw[e1,e0 j]
  simpa [Kn] using hj) (by
  intro u hu
  simp at hu
  rcases hu with rfl
  rfl) (by unfold maxLen;omega) (by omega) (by simp;omega)
 exact⟨v',w',h1,h2,h3⟩
def OZ(W:World)(B:Nat)(v:Value)(xs:List Int):Prop:=W.ownsRow B 3 1 v xs.length (xs.map Kn)
theorem OZ.below{W W':World}{B:Nat}{v:Value}{xs:List Int}(h:OZ W B v xs)(hB:Below W.heap.size W W'):OZ W' B v xs:=Bq h (λk e=>hB.block k (h.lt k e).2)
theorem ru(B:Nat)(w:World)(os:Array Obj)(hB:B<=w.heap.size):Below B w (Go.Sort.grow w os):=⟨rfl,rfl,rfl,by simp[Go.Sort.grow],λk hk=>by simp only[Go.Sort.grow];rw[Array.getElem?_append_left (by omega)]⟩
def Ig(xs:List Int):List Int:=xs.mergeSort λx y=>decide (x<=y)
theorem SQ(xs:List Int):(Ig xs).length=xs.length:=(List.mergeSort_perm xs _).length_eq
theorem zQ(W:World)(B:Nat)(v:Value)(xs:List Int)(ho:OZ W B v xs)(hl:xs.length<=1000000)(hB:B<=W.heap.size):Calls prog 29 #[v] W λe w'=>e=.returned (.tuple #[])/\Below B W w'/\OZ w' B v (Ig xs):=by
 rcases Classical.em (v=.slice none 0 0) with e|e
 ·subst e
  have h0:xs=[]:=by
   rcases ho.2 with⟨_,h⟩|⟨g,cap,cur,h,_⟩
   ·exact List.length_eq_zero_iff.1 h
   ·cases h
  subst h0
  refine(Tryz.slices_Sort_int_none none 0 W).mono ?_
  rintro e w' ⟨rfl,rfl⟩
  exact⟨rfl,Below.refl _ _,by rw[show Ig []=[] from by simp[Ig]];exact ho⟩
 ·obtain⟨g,cap,rfl,h1,h2,h3,h4,h5,h6⟩:=Lib.holds_of_ownsRow (enc:=Value.int .i64) (zs:=xs) ho e
  refine(Tryz.slices_Sort_int g 0 cap xs W h6 h2 (by omega)).mono ?_
  rintro e w' ⟨rfl,n,os,rfl⟩
  have b1:Below B W (Go.Sort.putRow (Value.int .i64) (Sort.ahead W n) g 0 (Ig xs).toArray):=Lib.below_putRow (Below.refl B W) h1
  have sz:(Go.Sort.putRow (Value.int .i64) (Sort.ahead W n) g 0 (Ig xs).toArray).heap.size=W.heap.size:=by simp[Go.Sort.size_putRow,Sort.ahead]
  have b2:Below W.heap.size (Go.Sort.putRow (Value.int .i64) (Sort.ahead W n) g 0 (Ig xs).toArray) (Go.Sort.grow (Go.Sort.putRow (Value.int .i64) (Sort.ahead W n) g 0 (Ig xs).toArray) os):=ru _ _ os (by omega)
  have o1:=Lib.ownsRow_putRow (enc:=Value.int .i64) (w:=W) (base:=B) (e:=3) (q:=n) (k:=xs.length) (ys:=Ig xs) ho (SQ xs) (z2z _)
  rw[z7z (by rw[SQ];exact z2z _)] at o1
  refine⟨rfl,b1.trans (b2.mono hB),?_⟩
  unfold OZ
  rw[SQ]
  exact Bq o1 (λk e=>b2.block k (by rw[<- sz];exact(o1.lt k e).2))
theorem xG(L:List (Nd × Nat))(p:Nd × Nat):Iu (L++[p])=Iu L++(if (p.1.kind==21)&&OD p.1.text.toList then [p.1.a] else []):=by
 unfold Iu
 rw[List.filter_append,List.map_append]
 congr 1
 simp only[List.filter_cons,List.filter_nil]
 split <;> rfl
theorem xQ(L:List (Nd × Nat)):(Iu L).length<=L.length:=by
 unfold Iu
 rw[List.length_map]
 exact List.length_filter_le _ _
theorem iP(n:Nd)(u:Fo)(hn1:n.kind=1)(hw:Wt .us u)(L:List (Nd × Nat))(hL:AJ (.cons n u .nil)=L)(hfew:L.length<=100000)(hpr:LZ L)(y:Int)(hp:Jf Am 64 (.cons n u .nil)=some (0,y))(gl lc:Nat)(w:World)(ht:Tabs w)(hm:MarksIn w)(hN:Cw w (.slice (some ⟨gl,0,none⟩) L.length lc) L) :
  Calls prog 18 #[(.slice (some ⟨gl,0,none⟩) L.length lc)] w λe w'=>∃v,e=.returned v/\Below w.heap.size w w'/\OZ w' w.heap.size v (Ig (Iu L)):=by
 have cC:=Ul n u hn1 hw L hL hfew hpr (0,y) hp gl lc w ht hm hN
 have hf0:=fJ 0 y
 have hgl:=QW hN
 have HN:=hid hN
 have HW:=hid hfew
 clear hpr ht hm hN hp hw hL hn1 hfew
 go_enter func18,ntmps18
 go_wp2_with (go_at_call 13;(with_reducible refine cC.mono ?_);rintro e w1 ⟨rfl,hB1⟩;clear cC)
 go_loopw [3,5,12] (λpv _ ii wr=>∃ (k:Nat),k<=L.length/\ii=.int .i64 (k:Nat)/\(∃o m c,pv=.slice o m c)/\OZ wr w.heap.size pv (Iu (L.take k))/\Below w.heap.size w wr) (λ_ _ ii _=>L.length-(intOf ii).toNat)
 case atStart=>exact⟨0,Nat.zero_le _,rfl,⟨_,_,_,rfl⟩,World.ownsRow_nil _ _ _ _,hB1⟩
 case round=>
  obtain⟨k,hk,rfl,⟨o,m,c,rfl⟩,ho,hB⟩:=hrel
  clear hB1
  have hLL:=HW.out
  have hol:(Iu (L.take k)).length<=100000:=by
   have:=xQ (L.take k)
   rw[List.length_take] at this
   omega
  have hBs:=hB.size
  by_cases hin:k<L.length
  ·obtain⟨⟨nn,kd⟩,hn⟩:∃p,L[k]? = some p:=⟨_,List.getElem?_eq_getElem hin⟩
   have htk:L.take (k+1)=L.take k++[(nn,kd)]:=by
    rw[List.take_add_one,hn];rfl
   have hsn:=xG (L.take k) (nn,kd)
   rw[<- htk] at hsn
   have hN2:Cw wr (.slice (some ⟨gl,0,none⟩) L.length lc) L:=by
    obtain⟨g,cap,e,h1,h2,h3⟩:=HN.out
    simp only[Value.slice.injEq,Option.some.injEq,Addr.mk.injEq,true_and,and_true] at e
    obtain⟨rfl,rfl⟩:=e
    exact⟨gl,lc,rfl,by omega,h2,λi p hp j hj=>(hB.cell (p:=⟨gl,_,none⟩) hgl).trans (h3 i p hp j hj)⟩
   obtain⟨c0,c1,c2,c3,c4,c5⟩:=hN2.at hn
   simp only at c0 c1 c2 c3 c4 c5
   have m1:((k:Nat):Int)<L.length:=by omega
   have m0:(0:Int)<=(k:Nat):=by omega
   have wk:IntKind.i64.wrap ((k:Int)+1)=(k:Int)+1:=by rw[IntKind.wrap_i64];omega
   have b1:Below wr.heap.size wr (wr.alloc (Ab nn kd)):=(Below.refl _ wr).alloc (z2z _) _
   have nb:=z6z wr #[.int .i64 nn.kind,.int .i64 nn.a,.int .i64 (kd:Nat),.string nn.text,.int .i64 nn.int,.int .u64 nn.bits] 48
   have x0:(wr.alloc (Ab nn kd)).cell? ⟨wr.heap.size,0,none⟩=some (.int .i64 nn.kind):=nb 0
   have x1:(wr.alloc (Ab nn kd)).cell? ⟨wr.heap.size,1,none⟩=some (.int .i64 nn.a):=nb 1
   have x3:(wr.alloc (Ab nn kd)).cell? ⟨wr.heap.size,3,none⟩=some (.string nn.text):=nb 3
   have ho1:=ho.below b1
   have hB1:Below w.heap.size w (wr.alloc (Ab nn kd)):=hB.trans (b1.mono hBs)
   have HM:=hid (show L.length-((k:Int)+1).toNat<L.length-((k:Int)).toNat by omega)
   have cm:=ACe nn.text
   cases hkd:(nn.kind==21) with
   | false=>
    rw[hkd,Bool.false_and,if_neg (by simp),List.append_nil] at hsn
    rw[<- hsn] at ho1
    have HO:=hid ho1
    have HB:=hid hB1
    clear ho hB hN2 nb b1 ho1 hB1 hn htk hsn cm
    simp only[Ab] at *
    go_wp2
    go_roundw
    case rel=>exact⟨k+1,hin,rfl,⟨_,_,_,rfl⟩,HO.out,HB.out⟩
    case measure=>exact HM.out
   | true=>
    rw[hkd,Bool.true_and] at hsn
    cases hmt:OD nn.text.toList with
    | false=>
     rw[hmt,if_neg (by simp),List.append_nil] at hsn
     rw[hmt] at cm
     rw[<- hsn] at ho1
     have HO:=hid ho1
     have HB:=hid hB1
     clear ho hB hN2 nb b1 ho1 hB1 hn htk hsn
     simp only[Ab] at *
     go_wp2_with (go_at_call 28;(with_reducible refine(cm _).mono ?_);rintro e w2 ⟨rfl,hw2⟩;subst hw2)
     go_roundw
     case rel=>exact⟨k+1,hin,rfl,⟨_,_,_,rfl⟩,HO.out,HB.out⟩
     case measure=>exact HM.out
    | true=>
     rw[hmt,if_pos rfl] at hsn
     rw[hmt] at cm
     obtain⟨v',w',hrun,h2,h3⟩:=jX (wr.alloc (Ab nn kd)) 39 _ _ _ ho1 (z1z hBs b1.size) nn.a (by omega)
     have hb':Below w.heap.size w w':=(hB1.alloc (z1z hBs b1.size) _).trans (((It.AL.refl (λk=>w.heap.size<=k) _).grown h3 (λk e=>.inl (ho1.lt k e).1)).below (z1z (z1z hBs b1.size) (by simp)) (λk e=>e))
     have ho':OZ w' w.heap.size v' (Iu (L.take (k+1))):=by
      unfold OZ
      rw[hsn,List.length_append,List.map_append]
      exact h2
     obtain⟨o',c',hv'⟩:=Ak h2
     subst hv'
     have sz:(wr.alloc (Ab nn kd)).heap.size=wr.heap.size+1:=World.size_alloc ..
     rw[sz] at hrun
     have HO:=hid ho'
     have HB:=hid hb'
     clear ho hB hN2 nb b1 ho1 hB1 hn htk hsn h2 h3 ho' hb' sz
     simp only[Ab] at *
     go_wp2_with (first|(go_at_call 28;(with_reducible refine(cm _).mono ?_);rintro e w2 ⟨rfl,hw2⟩;subst hw2)|(at_builtin;refine Lib.wpList_append_run _ rfl (.tmp 24) (.tmp 27) 39 39 rfl _ _ (by simp[Act.eval]) (by simp[Act.eval]) _ _ hrun ?_))
     go_roundw
     case rel=>exact⟨k+1,hin,rfl,⟨_,_,_,rfl⟩,HO.out,HB.out⟩
     case measure=>exact HM.out
  ·have e:L.take k=L:=z7z (by omega)
   rw[e] at ho hol
   have m1:¬ ((k:Nat):Int)<L.length:=by omega
   have cS:=zQ wr w.heap.size _ _ ho (by omega) hBs
   have HB:=hid hB
   clear ho hB hol e
   go_wp2_with (go_at_call 29;(with_reducible refine cS.mono ?_);rintro e w5 ⟨rfl,hB5,hO5⟩;(have HX:=hid (z0z hB5 hO5));clear cS hB5 hO5)
   go_ret
   exact⟨_,rfl,HB.out.trans HX.out.1,HX.out.2⟩
structure Gq (B gl lc ge:Nat) (L:List (Nd × Nat)) (E:List Nat) (s:ByteArray) (b5:Nat) (w:World) (i:Nat) (D:Nat->Prop) (W:World):Prop where
 i0:i=0
 dd:∀k,¬D k
 bel:Below B w W
 x0:W.heap[B]? = some (.cells #[(.slice (some ⟨gl,0,none⟩) L.length lc)] 23 (0,0))
 x1:W.heap[B+1]? = some (.cells #[.string s] 9 (0,0))
 x2:W.heap[B+2]? = some (.cells #[.int .i64 0] 3 (0,0))
 x5:W.heap[b5]? = some (.cells #[(.slice (some ⟨gl,0,none⟩) L.length lc),(.slice (some ⟨ge,0,none⟩) E.length L.length)] 41 (0,0))
 kr:W.heap[b5+1]? = some (.cells #[(.slice (some ⟨gl,0,none⟩) L.length lc),(.slice (some ⟨ge,0,none⟩) E.length L.length)] 41 (0,0))
 ka:W.heap[b5+2]? = some (.cells #[.int .i64 0] 3 (0,0))
 rin:EA gl lc ge L.length L E W
 sz:b5+3<=W.heap.size
section
variable {B gl lc ge:Nat} {L:List (Nd × Nat)} {E:List Nat} {s:ByteArray} {b5:Nat} {w W W':World} {i:Nat} {D:Nat->Prop}
theorem Gq.keep(q:Gq B gl lc ge L E s b5 w i D W)(hB:B+3<=b5)(hg:gl<b5/\ge<b5){S:Nat->Prop}(hU:It.AL S W W')(hS:∀k,S k->b5+3<=k):Gq B gl lc ge L E s b5 w i D W':=by
 have sz:=q.sz
 have key:∀k,k<b5+3->W'.heap[k]? = W.heap[k]?:=λk hk=>hU.block k (by omega) (λe=>by have:=hS k e;omega)
 have hBW:Below (b5+3) W W':=hU.below sz hS
 exact⟨q.i0,q.dd,q.bel.trans (hBW.mono (by omega)),(key _ (by omega)).trans q.x0,(key _ (by omega)).trans q.x1,(key _ (by omega)).trans q.x2,(key _ (by omega)).trans q.x5,(key _ (by omega)).trans q.kr,(key _ (by omega)).trans q.ka,q.rin.low (by omega) hBW,z1z sz hU.size⟩
theorem Gq.gk(q:Gq B gl lc ge L E s b5 w i D W){nd:Nd}{kd:Nat}(ha:L[0]? = some (nd,kd)):Qk (b5+2) (b5+1) gl lc ge L.length L E 0 kd W:=by
 obtain⟨-,-,c2,-⟩:=q.rin.row.at ha
 obtain⟨g',c',e',h1',h3'⟩:=q.rin.ends
 simp only[Value.slice.injEq,Option.some.injEq,Addr.mk.injEq,true_and,and_true] at e'
 obtain⟨rfl,rfl⟩:=e'
 exact⟨AU q.ka 0,AU q.kr 0,AU q.kr 1,c2,h3'⟩
end
theorem lt3{a b:Nat}(h:b=a+3):a<b:=by omega
theorem ltq{a b c:Nat}(h:b+3<=c)(h2:a+3<=b):a+2<c:=by omega
theorem le3{a b:Nat}(h:b=a+3):a<=b:=by omega
theorem AAV{fn:Func}{p:Tmp}(h:fn.results = #[.cell p 3])(tmps:Array Value)(w:World)(gb:Nat)(x:Int)(hp:tmps.getD p undef=.pointer (some ⟨gb,0,none⟩))(hg:w.cell? ⟨gb,0,none⟩=some (.int .i64 x)):(results fn tmps).run prog w=.ok (.int .i64 x) w:=by
 have hp':tmps[p]?.getD undef=.pointer (some ⟨gb,0,none⟩):=by simpa using hp
 have hu:prog.underlying 3=some (.int .i64):=by kernel_rfl
 have hl:(loadVar 3 ⟨gb,0,none⟩).run prog w=.ok (.int .i64 x) w:=by simp[loadVar,isAgg,run_underlying hu,hg,go_sem]
 simp[results,h,hp',asAddr,hl]
theorem ABk(n:Nd)(nf:Nd)(ks rr:Fo)(hn1:n.kind=1)(hw:Wt .us (.cons nf ks rr))(hk3:nf.kind=3)(L:List (Nd × Nat))(hL:AJ (.cons n (.cons nf ks rr) .nil)=L)(hfew:L.length<=100000)(hpr:LZ L)(y:Int)(hp:Jf Am 9223372036854775807 (.cons n (.cons nf ks rr) .nil)=some (0,y))(gl lc:Nat)(w:World)(ht:Tabs w)(hm:MarksIn w)(hN:Cw w (.slice (some ⟨gl,0,none⟩) L.length lc) L) :
  Calls prog 8 #[(.slice (some ⟨gl,0,none⟩) L.length lc),.string nf.text] w λe w'=>e=.returned (.int .i64 ((Iq nf ks:Nat):Int))/\Below w.heap.size w w':=by
 have hgl:=QW hN
 have htops:=Zy hw (.inl rfl)
 have hlies:=(Nz (.cons n (.cons nf ks rr) .nil)).kids
 have hok:=Xh (.cons n (.cons nf ks rr) .nil)
 have hkl:0<ks.len:=htops.2.1 (by omega)
 have hbd:ks.len+4*((AJ ks).length+1)<=1000000:=by
  have:=LQ ks
  have h5:(AJ (.cons n (.cons nf ks rr) .nil)).length=(AJ ks).length+(AJ rr).length+2:=by simp[AJ]
  rw[hL] at h5
  omega
 rw[hL] at hlies hok
 rw[Nat.zero_add] at hlies
 obtain⟨h1L,_⟩:=hlies.head
 have hlk:=hlies.kids
 generalize Ed 0 (.cons n (.cons nf ks rr) .nil)=E at *
 obtain⟨kd,hkd⟩:∃kd,(Fo.cons nf ks rr).len=kd:=⟨_,rfl⟩
 have hkd0:0<kd:=by rw[<- hkd];simp[Fo.len]
 have h0:L[0]? = some (n,kd):=by rw[<- hL,<- hkd];simp[AJ]
 obtain⟨R,hR⟩:∃R,Iq nf ks=R:=⟨_,rfl⟩
 have CG:=hid (show ∀W ge,EA gl lc ge L.length L E W->Calls prog 17 #[.agg #[(.slice (some ⟨gl,0,none⟩) L.length lc),(.slice (some ⟨ge,0,none⟩) E.length L.length)],.int .i64 ((0+1:Nat):Int)] W λe w'=>e=.returned (.int .i64 ((R:Nat):Int))/\Below W.heap.size W w' from λW ge hr=>by rw[<- hR];exact dO gl lc ge L.length L E hok nf ks 1 W hr h1L hlk hkl hbd)
 rw[hR]
 obtain⟨a1,a2,a3⟩:=Ni [.cells #[(.slice (some ⟨gl,0,none⟩) L.length lc)] 23,.cells #[.string nf.text] 9,.cells #[.int .i64 0] 3] w
 simp only[List.foldl_cons,List.foldl_nil,z4z,z5z,Nat.zero_add,z3z] at a1 a2 a3
 have cF:=YG n (.cons nf ks rr) hn1 hw L hL hfew hpr 9223372036854775807 (0,y) hp gl lc _ (ht.below a2) (hm.below a2) (hN.below a2)
 have CR:=hid (show ∀w1,Below w.heap.size w w1->Calls prog 15 #[(.slice (some ⟨gl,0,none⟩) L.length lc)] w1 λe w'=>∃ge,e=.returned (.agg #[(.slice (some ⟨gl,0,none⟩) L.length lc),(.slice (some ⟨ge,0,none⟩) E.length L.length)])/\Below w1.heap.size w1 w'/\EA gl lc ge L.length L E w' from λw1 hB=>(dM w1 gl lc L E (hN.below hB) hok).mono (by
  rintro e w' ⟨ge,rfl,h1,h2,h3⟩
  exact⟨ge,rfl,h1,(hN.below hB).below h1,h2⟩))
 have ck:∀ (W:World) (ge:Nat),Calls prog 16 #[.agg #[(.slice (some ⟨gl,0,none⟩) L.length lc),(.slice (some ⟨ge,0,none⟩) E.length L.length)],.int .i64 0] W λe w'=>e=.returned (.func (.func 26) #[] #[.pointer (some ⟨W.heap.size+1,0,none⟩),.pointer (some ⟨W.heap.size,0,none⟩)])/\w'=(W.alloc (.cells #[(.slice (some ⟨gl,0,none⟩) L.length lc),(.slice (some ⟨ge,0,none⟩) E.length L.length)] 41)).alloc (.cells #[.int .i64 0] 3):=λW ge=>Ud W (.slice (some ⟨gl,0,none⟩) L.length lc) (.slice (some ⟨ge,0,none⟩) E.length L.length) ⟨_,_,_,rfl⟩ ⟨_,_,_,rfl⟩ 0
 have hf0:=λw=>fJ 0 y w
 have q0:=a3 0 (by omega)
 have y0:((((w.alloc (.cells #[(.slice (some ⟨gl,0,none⟩) L.length lc)] 23)).alloc (.cells #[.string nf.text] 9)).alloc (.cells #[.int .i64 0] 3))).cell? ⟨w.heap.size,0,none⟩=some (.slice (some ⟨gl,0,none⟩) L.length lc):=AU q0 0
 have HA:=hid (z0z a1 (z0z a2 a3))
 have H0:=hid (z0z h0 (z0z h1L (z0z hok (z0z hkd0 hgl))))
 have hLl:L.length<=1000000:=by omega
 clear hpr ht hm hN hp hw hL hn1 hfew htops hlies hok hkl hbd hlk h1L hkd h0 hkd0 hR q0 a1 a2 a3 hgl
 refine(callsIn_wide (n:=9)).1 ?_
 refine callsIn_of_wp_marks func8 rfl trivial ?_ rfl
 refine wpIn_wide.2 ?_
 simp only[ntmps8,List.size_toArray,z4z,z5z,z3z,Nat.reduceSub,Array.replicate_succ,Array.replicate_zero,List.push_toArray,List.append_toArray,List.nil_append,List.cons_append]
 go_wp2_with (first|(go_at_call 14;(with_reducible refine cF.mono ?_);rintro e w1 ⟨rfl,hB1⟩;(have y1:=(hB1.cell (p:=⟨w.heap.size,0,none⟩) (lt3 HA.out.1)).trans y0);(have cR:=CR.out w1 (HA.out.2.1.trans (hB1.mono (le3 HA.out.1))));(have HB1:=hid hB1);clear hB1 cF CR y0)|(go_at_call 15;(with_reducible refine cR.mono ?_);rintro e w2 ⟨ge,rfl,hB2,hR2⟩;(have HB2:=hid hB2);(have HR2:=hid hR2);clear hB2 hR2 cR)|(go_at_call 16;(with_reducible refine(ck _ _).mono ?_);rintro e w3 ⟨rfl,hw3⟩;(have hw':=hw3.symm);subst hw';clear hw3 ck))
 obtain⟨a1,a2,a3⟩:=HA.out
 obtain⟨h0,h1L,hok,hkd0,hgl⟩:=H0.out
 obtain⟨B,hBe⟩:∃B,w.heap.size=B:=⟨_,rfl⟩
 obtain⟨b5,h5e⟩:∃b5,w2.heap.size=b5:=⟨_,rfl⟩
 obtain⟨k1,k2,k3⟩:=Ni [.cells #[(.slice (some ⟨gl,0,none⟩) L.length lc),(.slice (some ⟨ge,0,none⟩) E.length L.length)] 41,.cells #[(.slice (some ⟨gl,0,none⟩) L.length lc),(.slice (some ⟨ge,0,none⟩) E.length L.length)] 41,.cells #[.int .i64 0] 3] w2
 simp only[List.foldl_cons,List.foldl_nil,z4z,z5z,Nat.zero_add,z3z] at k1 k2 k3
 have s1:=HB1.out.size
 have s2:=HB2.out.size
 have hge:=HR2.out.gl
 have q0:Gq B gl lc ge L E nf.text b5 w 0 (λ_=>False) (((w2.alloc (.cells #[(.slice (some ⟨gl,0,none⟩) L.length lc),(.slice (some ⟨ge,0,none⟩) E.length L.length)] 41)).alloc (.cells #[(.slice (some ⟨gl,0,none⟩) L.length lc),(.slice (some ⟨ge,0,none⟩) E.length L.length)] 41)).alloc (.cells #[.int .i64 0] 3)):=by
  subst hBe h5e
  have key:∀k,k<w.heap.size+3->(((w2.alloc (.cells #[(.slice (some ⟨gl,0,none⟩) L.length lc),(.slice (some ⟨ge,0,none⟩) E.length L.length)] 41)).alloc (.cells #[(.slice (some ⟨gl,0,none⟩) L.length lc),(.slice (some ⟨ge,0,none⟩) E.length L.length)] 41)).alloc (.cells #[.int .i64 0] 3)).heap[k]? = (((w.alloc (.cells #[(.slice (some ⟨gl,0,none⟩) L.length lc)] 23)).alloc (.cells #[.string nf.text] 9)).alloc (.cells #[.int .i64 0] 3)).heap[k]?:=λk hk=>(k2.block k (by omega)).trans ((HB2.out.block k (by omega)).trans (HB1.out.block k (by omega)))
  exact⟨rfl,λk=>id,a2.trans ((HB1.out.mono (by omega)).trans ((HB2.out.mono (by omega)).trans (k2.mono (by omega)))),(key _ (by omega)).trans (a3 0 (by omega)),(key _ (by omega)).trans (a3 1 (by omega)),(key _ (by omega)).trans (a3 2 (by omega)),k3 0 (by omega),k3 1 (by omega),k3 2 (by omega),HR2.out.below k2,by omega⟩
 have hb5:B+3<=b5:=by omega
 have hg5:gl<b5/\ge<b5:=by omega
 have HQ:=hid q0
 have HE:=hid (show (((w2.alloc (.cells #[(.slice (some ⟨gl,0,none⟩) L.length lc),(.slice (some ⟨ge,0,none⟩) E.length L.length)] 41)).alloc (.cells #[(.slice (some ⟨gl,0,none⟩) L.length lc),(.slice (some ⟨ge,0,none⟩) E.length L.length)] 41)).alloc (.cells #[.int .i64 0] 3)).heap.size=b5+3 by omega)
 have HBE:=hid hBe
 clear q0 a1 a2 a3 k1 k2 k3 s1 s2 hge HB1 HB2 HR2 y1 H0 HA
 simp only[hBe,h5e,Nat.add_assoc,z3z]
 clear hBe h5e
 generalize World.alloc _ (Obj.cells #[Value.int IntKind.i64 0] 3)=W0 at *
 refine OX (TQ (b5+2) (b5+1) gl lc ge L.length L E hok hLl 0 kd n h0) VF rfl (Gq B gl lc ge L E nf.text b5 w) (λc W=>c=.ret/\Below B w W/\W.cell? ⟨B+2,0,none⟩=some (.int .i64 ((R:Nat):Int))/\b5+3<=W.heap.size) ?hL ?hI ?hIx _ HQ.out ?A ?hsz ?assign ?body ?done ?stop
 case assign=>
  intro L' i hi W K hK
  rw[Lr]
  simp only[Rj,List.setIfInBounds_toArray,List.set_cons_succ,List.set_cons_zero]
  gi_wp2_with (simp only[Oper.semAt];go_simp)
  exact hK
 case hL=>
  intro i D W q
  exact⟨q.gk h0,λk hk=>absurd hk (q.dd k)⟩
 case hI=>
  intro i D W W' q hu
  exact q.keep hb5 hg5 hu (λk e=>by have:=HE.out;omega)
 case hIx=>
  rintro c W W' ⟨e1,e2,e3,e4⟩ hu
  have hB3:Below (b5+3) W W':=hu.below e4 (λk e=>by have:=HE.out;omega)
  exact⟨e1,e2.trans (hB3.mono (by omega)),(hB3.cell (p:=⟨B+2,0,none⟩) (by show B+2<b5+3;omega)).trans e3,z1z e4 hu.size⟩
 case hsz=>intro i hi;rw[Lr];rfl
 case done=>
  intro D W q hD
  rw[Ky] at q
  have:=q.i0
  omega
 case stop=>
  rintro c W ⟨rfl,e2,e3,e4⟩ hD
  rw[HE.out] at hD
  go_wp2
  rw[HE.out]
  refine⟨by simp,.inl ⟨_,_,rfl,run_takeDeferred hD,?_⟩⟩
  have u3:It.AL (λk=>k=b5+3) W (W.putObj (b5+3) (.deferred none)):=It.Ip (S:=λk=>k=b5+3) rfl _
  have hB3:Below (b5+3) W (W.putObj (b5+3) (.deferred none)):=u3.below e4 (λk e=>by omega)
  refine⟨_,AAV rfl _ _ (B+2) _ rfl ((hB3.cell (p:=⟨B+2,0,none⟩) (by show B+2<b5+3;omega)).trans e3),rfl,?_⟩
  rw[HBE.out]
  exact e2.trans (hB3.mono (by omega))
 case body=>
  intro L' i hi D W hLe q hs hlp
  subst hLe
  have hi0:=q.i0
  subst hi0
  obtain⟨c0,c1,c2,c3,c4,c5⟩:=q.rin.row.at h1L
  simp only at c0 c3
  rw[hk3] at c0
  have hll:=(List.getElem?_eq_some_iff.1 h1L).1
  have m2:(1:Int)<L.length:=by omega
  have v0:W.cell? ⟨B,0,none⟩=some (.slice (some ⟨gl,0,none⟩) L.length lc):=AU q.x0 0
  have v1:W.cell? ⟨B+1,0,none⟩=some (.string nf.text):=AU q.x1 0
  have v2:W.cell? ⟨B+2,0,none⟩=some (.int .i64 0):=AU q.x2 0
  have v5:W.cell? ⟨b5,0,none⟩=some (.slice (some ⟨gl,0,none⟩) L.length lc):=AU q.x5 0
  have v6:W.cell? ⟨b5,1,none⟩=some (.slice (some ⟨ge,0,none⟩) E.length L.length):=AU q.x5 1
  have hqq:(nf.text.toList==nf.text.toList)=true:=by simp
  have Q2:=hid q
  have HS:=hid hs
  simp only[hop,Option.getD_some]
  clear q hlp c1 c2 c4 c5 hs
  gi_wp2_with (simp only[Oper.semAt];go_simp)
  refine It.rX (by kernel_rfl) (by kernel_rfl) (by rintro⟨a,w,hF⟩;exact hF) (by kernel_rfl) ?_
  repeat (go_big_quiet_step (fail))
  refine wpQuiet_nil ?_
  rintro w' ⟨m,rfl⟩
  have bd:Below W.heap.size W (W.drewN m):=⟨rfl,rfl,rfl,z2z _,λk _=>rfl⟩
  have cg:=CG.out (W.drewN m) ge (Q2.out.rin.below bd)
  have v5':(W.drewN m).cell? ⟨b5,0,none⟩=some (.slice (some ⟨gl,0,none⟩) L.length lc):=v5
  have v6':(W.drewN m).cell? ⟨b5,1,none⟩=some (.slice (some ⟨ge,0,none⟩) E.length L.length):=v6
  gi_wp2_with (first|(simp only[Oper.semAt];go_simp)|((refine⟨trivial,?_⟩);gi_at_call 17;(refine(CallsIn.inRound _ (callsIn_wide.2 cg)).mono ?_);rintro e w9 ⟨rfl,hB9⟩;(have g9:w9.heap[B+2]? = some (.cells #[.int .i64 0] 3 (0,0)):=(hB9.block _ (ltq Q2.out.sz hb5)).trans Q2.out.x2);(have u0:=AU g9 0);(have z0:=thaw g9 0);(have HB9:=hid hB9);(have G9:=hid g9);clear cg hB9 g9))
  have sz:=Q2.out.sz
  have hs2:=HS.out
  have s9:W.heap.size<=w9.heap.size:=HB9.out.size
  have k9:∀k,k<W.heap.size->k≠B+2->(w9.setCell ⟨B+2,0,none⟩ (.int .i64 ((R:Nat):Int))).heap[k]? = W.heap[k]?:=λk hk hne=>(Below.heap_setCell _ _ _ _ (by show k≠B+2;exact hne)).trans (HB9.out.block k hk)
  have he:=HE.out
  have u9:w9.cell? ⟨B+2,0,none⟩=some (.int .i64 0):=AU G9.out 0
  refine⟨⟨k9 _ (by omega) (by omega),k9 _ (by omega) (by omega)⟩,rfl,?_,World.cell?_setCell_same _ _ _ u9,?_⟩
  ·exact(Q2.out.bel.trans ((bd.trans HB9.out).mono (by have:=Q2.out.bel.size;omega))).setCell (p:=⟨B+2,0,none⟩) (by show B<=B+2;omega) _
  ·show b5+3<=(w9.setCell ⟨B+2,0,none⟩ (.int .i64 ((R:Nat):Int))).heap.size
   simp
   omega
end Go.Proofs.YtjplieobnknnpaaGreatDoor.W.Tr

import Derived.Test.YteffljnjmcjdfaaGreatDoorKD
import Derived.Test.YteffljnjmcjdfaaGreatDoorKA
import Derived.Test.YteffljnjmcjdfaaGreatDoorKG
import Derived.Test.YteffljnjmcjdfaaGreatDoorKV
open List renaming length_cons → z7z, length_append → z8z, cons_append → z9z, getElem?_append_right → z10z, getElem?_eq_getElem → z11z, length_nil → z13z, getD_eq_getElem?_getD → z16z, count_append → z17z, count_cons → z18z, take_of_length_le → z19z, ext_getElem? → z20z, getElem?_eq_some_iff → z21z
open Array renaming getElem?_eq_some_iff → z1z
open Nat renaming le_refl → z0z, zero_add → z14z, zero_le → z15z
open Go.World renaming alloc_heap_new → z5z, alloc → z12z
open Go.RowKit.Below renaming refl → z4z, heap_setCell → z6z
open Go.IntKind renaming i64 → z2z, wrap_i64 → z3z
open Go.Proofs.Tryz
set_option maxRecDepth 1000000
set_option maxHeartbeats 8000000
namespace Go.Proofs.YteffljnjmcjdfaaGreatDoor.W.Tr
set_option linter.unusedVariables false
def plF:Fo->Nat->List Nat
 | .nil,_=>[]
 | .cons n ks r,b=>b::plF r (b+1+(rowF ks).length)
theorem plF_len:∀ (f:Fo) (b:Nat),(plF f b).length=f.len
 | .nil,b=>rfl
 | .cons n ks r,b=>by
  show (plF r _).length+1=r.len+1
  rw[plF_len r]
theorem plF_in:∀ (f:Fo) (b k:Nat),k ∈ plF f b->b<=k/\k<b+(rowF f).length
 | .nil,b,k,h=>by cases h
 | .cons n ks r,b,k,h=>by
  simp only[plF,List.mem_cons] at h
  have e:(rowF (Fo.cons n ks r)).length=1+(rowF ks).length+(rowF r).length:=by simp[rowF];omega
  rw[e]
  rcases h with rfl|h
  ·omega
  ·have:=plF_in r _ k h
   omega
def behG(L:List (Nd × Nat)):Nat->Nat->Nat->Nat
 | 0,_,_=>L.length
 | r+1,i,m=>if m=0 then i else if L.length<i+m then L.length else behG L r (i+1) (m+min (kidsAt L i) L.length-1)
theorem beh_go(L:List (Nd × Nat)):∀ (f:Fo) (A R:List (Nd × Nat)) (c r:Nat),L=A++(rowF f++R)->c<=R.length->(rowF f).length<=r->behG L r A.length (f.len+c)=behG L (r-(rowF f).length) (A.length+(rowF f).length) c
 | .nil,A,R,c,r,hL,hc,hr=>by simp[rowF,Fo.len]
 | .cons n ks t,A,R,c,r,hL,hc,hr=>by
  have e:rowF (Fo.cons n ks t)=(n,ks.len)::(rowF ks++rowF t):=rfl
  have el:(rowF (Fo.cons n ks t)).length=1+(rowF ks).length+(rowF t).length:=by rw[e];simp;omega
  have ln:(Fo.cons n ks t).len=t.len+1:=rfl
  have l1:=len_rowF ks
  have l2:=len_rowF t
  have hLl:L.length=A.length+(1+(rowF ks).length+(rowF t).length)+R.length:=by rw[hL,z8z,z8z,el];omega
  obtain⟨r',rfl⟩:∃r',r=r'+1:=⟨r-1,by omega⟩
  have hk:kidsAt L A.length=ks.len:=by
   unfold kidsAt
   rw[hL,e,z10z (z0z _)]
   simp
  rw[ln]
  conv=>lhs;unfold behG
  rw[if_neg (by omega),if_neg (by omega),hk,Nat.min_eq_left (by omega)]
  have e2:t.len+1+c+ks.len-1=ks.len+(t.len+c):=by omega
  rw[e2]
  have h1:=beh_go L ks (A++[(n,ks.len)]) (rowF t++R) (t.len+c) r' (by rw[hL,e];simp) (by simp;omega) (by omega)
  simp only[z8z,z7z,z13z,z14z] at h1
  rw[h1]
  have h2:=beh_go L t (A++[(n,ks.len)]++rowF ks) R c (r'-(rowF ks).length) (by rw[hL,e];simp) hc (by omega)
  simp only[z8z,z7z,z13z,z14z] at h2
  rw[h2,el]
  congr 1 <;> omega
theorem beh_one(L:List (Nd × Nat))(n:Nd)(ks:Fo)(A R:List (Nd × Nat))(hL:L=A++((n,ks.len)::rowF ks++R)):behG L (L.length+1-A.length) A.length 1=A.length+1+(rowF ks).length:=by
 have h:=beh_go L (Fo.cons n ks .nil) A R 0 (L.length+1-A.length) (by rw[hL];simp[rowF]) (z15z _) (by rw[hL];simp[rowF];omega)
 have e:(rowF (Fo.cons n ks .nil)).length=1+(rowF ks).length:=by simp[rowF];omega
 have e1:(Fo.cons n ks Fo.nil).len=1:=rfl
 rw[e,e1] at h
 rw[show 1+0=1 from rfl] at h
 rw[h]
 obtain⟨q,hq⟩:∃q,L.length+1-A.length-(1+(rowF ks).length)=q+1:=⟨L.length+1-A.length-(1+(rowF ks).length)-1,by rw[hL];simp;omega⟩
 rw[hq]
 unfold behG
 rw[if_pos rfl]
 omega
theorem row_at:∀ (f:Fo) (i:Nat),i<(rowF f).length->∃A n ks R,rowF f=A++((n,ks.len)::rowF ks++R)/\A.length=i
 | .nil,i,h=>by simp[rowF] at h
 | .cons n ks t,i,h=>by
  have e:rowF (Fo.cons n ks t)=(n,ks.len)::(rowF ks++rowF t):=rfl
  rw[e] at h ⊢
  cases i with
  | zero=>exact⟨[],n,ks,rowF t,by simp,rfl⟩
  | succ i=>
   simp at h
   rcases Nat.lt_or_ge i (rowF ks).length with hi|hi
   ·obtain⟨A,m,q,R,h1,h2⟩:=row_at ks i hi
    refine⟨(n,ks.len)::A,m,q,R++rowF t,?_,by simp[h2]⟩
    rw[z9z]
    congr 1
    rw[show A++((m,q.len)::rowF q++(R++rowF t))=(A++((m,q.len)::rowF q++R))++rowF t by simp,<- h1]
   ·obtain⟨A,m,q,R,h1,h2⟩:=row_at t (i-(rowF ks).length) (by omega)
    refine⟨(n,ks.len)::(rowF ks++A),m,q,R,?_,by simp[h2];omega⟩
    rw[z9z]
    congr 1
    rw[h1]
    simp
open Go.ChangeShapes Go.WideShapes Go.RowKit Go.Shelf
set_option linter.unusedSimpArgs false
theorem behind_c(w:World)(gl lc:Nat)(L:List (Nd × Nat))(hN:NR w (.slice (some ⟨gl,0,none⟩) L.length lc) L)(hK:∀p ∈ L,p.2<=1000000)(i:Nat)(hi:i<=L.length) :
  Calls prog 28 #[.slice (some ⟨gl,0,none⟩) L.length lc,.int .i64 (i:Nat)] w λe w'=>e=.returned (.int .i64 (behG L (L.length+1-i) i 1:Nat))/\w'=w:=by
 obtain⟨R,hR⟩:∃R,behG L (L.length+1-i) i 1=R:=⟨_,rfl⟩
 rw[hR]
 have hL:L.length<=1000000:=by obtain⟨_,_,_,h,_⟩:=hN;exact h
 have HN:=hid hN
 have HK:=hid hK
 clear hN hK
 go_enter func28,ntmps28
 go_upto_region 2 with fail
 go_loopw [1,5] (λiv mv wr=>∃ (r i m:Nat),r=L.length+1-i/\i<=L.length/\m<=3000000/\iv=.int .i64 (i:Nat)/\mv=.int .i64 (m:Nat)/\behG L r i m=R/\wr=w) (λiv _ _=>L.length+1-(intOf iv).toNat)
 case atStart=>exact⟨_,i,1,rfl,hi,by omega,rfl,rfl,hR,rfl⟩
 case round=>
  clear hR hi
  obtain⟨r,i,m,hr,hi,hm,rfl,rfl,hR,hw⟩:=hrel
  have hw':=hw.symm
  subst hw'
  clear hw
  obtain⟨r',hr'⟩:∃r',r=r'+1:=⟨r-1,by omega⟩
  rw[hr'] at hR
  unfold behG at hR
  by_cases h0:m=0
  ·subst h0
   rw[if_pos rfl] at hR
   subst hR
   go_wp2_with fail
   go_ret
   exact⟨rfl,rfl⟩
  rw[if_neg h0] at hR
  have j1:((m:Nat):Int)>0:=by omega
  have j2:z2z.wrap ((L.length:Int)-(i:Int))=(L.length:Int)-(i:Int):=by rw[z3z];omega
  by_cases hgt:L.length<i+m
  ·rw[if_pos hgt] at hR
   subst hR
   have j3:((m:Nat):Int)>(L.length:Int)-(i:Int):=by omega
   clear h0 hgt hr hr'
   go_wp2_with fail
   go_ret
   exact⟨rfl,rfl⟩
  rw[if_neg hgt] at hR
  have j3:¬ ((m:Nat):Int)>(L.length:Int)-(i:Int):=by omega
  have hlt:i<L.length:=by omega
  have hq:L[i]? = some L[i]:=z11z hlt
  have hk:kidsAt L i=L[i].2:=by unfold kidsAt;rw[hq]
  have hkb:=HK.out L[i] (List.mem_of_getElem? hq)
  obtain⟨-,-,c2,-,-,-⟩:=nr_cells HN.out i _ hq
  rw[hk] at hR
  generalize L[i].2=k at *
  have j4:(0:Int)<=i:=by omega
  have j5:(i:Int)<L.length:=by omega
  have j6:max ((k:Nat):Int) 0=k:=by omega
  have j7:min ((k:Nat):Int) (L.length:Int)=((min k L.length:Nat):Int):=by omega
  obtain⟨q,hq'⟩:∃q,q=min k L.length:=⟨_,rfl⟩
  have hqb:q<=1000000:=by omega
  rw[<- hq'] at hR j7
  have j8:z2z.wrap ((q:Int)-1)=(q:Int)-1:=by rw[z3z];omega
  have j9:z2z.wrap ((m:Int)+((q:Int)-1))=((m+q-1:Nat):Int):=by rw[z3z];omega
  have j10:z2z.wrap ((i:Int)+1)=((i+1:Nat):Int):=by rw[z3z];omega
  have HR:=hid hR
  have hmq:m+q-1<=3000000:=by omega
  have HE:Hid (r'=L.length+1-(i+1)):=hid (by omega)
  clear hq hk hkb hR hq' hgt hr hr' h0
  go_wp2_with fail
  go_roundw
  case rel=>exact⟨r',i+1,m+q-1,HE.out,by omega,hmq,by first|rfl|go_num,by first|rfl|go_num,HR.out,trivial⟩
  case measure=>show L.length+1-((i+1:Nat):Int).toNat<L.length+1-(i:Int).toNat;omega
def iv(k:Nat):Value:=.int .i64 (k:Nat)
theorem infoI:(prog.info? 3).map (λi=>(i.zero,i.size,i.bytes))=some (some (.int .i64 0),1,8):=by kernel_rfl
theorem underI:prog.underlying 34=some (.slice 3):=by kernel_rfl
theorem append_int(W:World)(ty:TypeId)(v:Value)(n:Nat)(xs:List Value){B0:Nat}(hown:W.ownsRow B0 3 1 v n xs)(hB:B0<=W.heap.size)(x:Nat)(hn:n<=4000000):∃v' w',(Builtin.append_ #[34,34] ty #[v,.slice (some ⟨W.heap.size,0,none⟩) 1 1]).run prog (W.alloc (.cells #[.int .i64 (x:Nat)] 3))=.ok v' w'/\w'.ownsRow B0 3 1 v' (n+1) (xs++[iv x])/\(W.alloc (.cells #[.int .i64 (x:Nat)] 3)).grownBy w' v.ownBlock:=by
 obtain⟨i0,hi,hz0,hz1,hz2⟩:=info_parts infoI
 have e0:=World.cell?_alloc_new W #[.int .i64 (x:Nat)] 3
 have ho:=hown.alloc (.cells #[.int .i64 (x:Nat)] 3)
 obtain⟨v',w',h1,h2,h3,_,h5⟩:=run_append_own_at (P:=prog) (W.alloc (.cells #[.int .i64 (x:Nat)] 3)) B0 34 ty 3 i0 _ 1 8 underI hi hz0 hz1 hz2 rfl (by omega) v n xs ho ⟨W.heap.size,0,none⟩ 1 1 [iv x] (by simp) (by
  intro j u hj
  have e1:((⟨W.heap.size,0,none⟩:Addr).add j)=⟨W.heap.size,j,none⟩:=by simp[Addr.add];intro e;exact e.symm
  rw[e1,e0 j]
  simpa [iv] using hj) (by
  intro u hu
  simp at hu
  rcases hu with rfl
  rfl) (by unfold maxLen;omega) (by omega) (by simp;omega)
 exact⟨v',w',h1,h2,h3⟩
def OI(W:World)(B:Nat)(v:Value)(ks:List Nat):Prop:=W.ownsRow B 3 1 v ks.length (ks.map iv)
theorem OI.below{W W':World}{B:Nat}{v:Value}{ks:List Nat}(h:OI W B v ks)(hB:Below W.heap.size W W'):OI W' B v ks:=owns_onX h (λk e=>hB.block k (h.lt k e).2)
theorem kidPlaces_c(w:World)(gl lc:Nat)(L:List (Nd × Nat))(hN:NR w (.slice (some ⟨gl,0,none⟩) L.length lc) L)(hgl:gl<w.heap.size)(hK:∀p ∈ L,p.2<=1000000)(A:List (Nd × Nat))(n:Nd)(ks:Fo)(R:List (Nd × Nat))(hL:L=A++((n,ks.len)::rowF ks++R)) :
  Calls prog 17 #[.slice (some ⟨gl,0,none⟩) L.length lc,.int .i64 (A.length:Nat)] w λe w'=>∃r,e=.returned r/\Below w.heap.size w w'/\OI w' w.heap.size r (plF ks (A.length+1)):=by
 obtain⟨T,hT⟩:∃T,plF ks (A.length+1)=T:=⟨_,rfl⟩
 rw[hT]
 have hLb:L.length<=1000000:=by obtain⟨_,_,_,h,_⟩:=hN;exact h
 have hat:L[A.length]? = some (n,ks.len):=by rw[hL,z10z (z0z _)];simp
 have hlt:=(z21z.1 hat).1
 obtain⟨-,-,c2,-,-,-⟩:=nr_cells hN A.length _ hat
 have hlen:A.length+1+(rowF ks).length+R.length=L.length:=by rw[hL];simp;omega
 have hL2:L=(A++[(n,ks.len)])++(rowF ks++R):=by rw[hL];simp
 have hTl:T.length<=1000000:=by rw[<- hT,plF_len];have:=len_rowF ks;omega
 generalize hi:A.length=i at *
 have j1:¬ ((i:Nat):Int)<0:=by omega
 have j2:¬ ((i:Nat):Int)≥L.length:=by omega
 have j3:z2z.wrap ((i:Int)+1)=((i+1:Nat):Int):=by rw[z3z];omega
 have j4:(0:Int)<=(i:Nat):=by omega
 have j5:((i:Nat):Int)<L.length:=by omega
 have HN:=hid hN
 have HK:=hid hK
 have HI:=hid hi
 have HL2:=hid hL2
 have HT:=hid hT
 simp only at c2
 clear hN hK hL hL2 hi hT hat hlen
 go_enter func17,ntmps17
 go_upto_region 6 with fail
 go_loopw [5,6,7] (λpv at' lv wr=>∃ (A':List (Nd × Nat)) (f:Fo) (dn:List Nat),L=A'++(rowF f++R)/\at'=.int .i64 (A'.length:Nat)/\lv=.int .i64 (f.len:Nat)/\dn++plF f A'.length=T/\(∃o c,pv=.slice o dn.length c)/\OI wr w.heap.size pv dn/\Below w.heap.size w wr) (λ_ _ lv _=>(intOf lv).toNat)
 case atStart=>exact⟨A++[(n,ks.len)],ks,[],HL2.out,by simp[HI.out],rfl,by simpa [HI.out] using HT.out,⟨_,_,rfl⟩,World.ownsRow_nil _ _ _ _,z4z _ _⟩
 case round=>
  obtain⟨A',f,dn,hA,rfl,rfl,hdn,⟨o,c,rfl⟩,ho,hB⟩:=hrel
  clear c2 HT HL2 HI
  cases f with
  | nil=>
   have e:dn=T:=by simpa [plF] using hdn
   have HO:=hid ho
   have HB:=hid hB
   clear hdn ho hB hA
   simp only[Fo.len]
   go_wp2_with fail
   go_ret
   exact⟨_,rfl,HB.out,by rw[<- e];exact HO.out⟩
  | cons n' ks' t=>
   have ln:(Fo.cons n' ks' t).len=t.len+1:=rfl
   have e:rowF (Fo.cons n' ks' t)=(n',ks'.len)::(rowF ks'++rowF t):=rfl
   have hA2:L=A'++((n',ks'.len)::rowF ks'++(rowF t++R)):=by rw[hA,e];simp
   have hb:=beh_one L n' ks' A' (rowF t++R) hA2
   have hlt2:A'.length<L.length:=by rw[hA2];simp
   have hlt3:A'.length+1+(rowF ks').length<=L.length:=by rw[hA2];simp;omega
   have hdl:dn.length<=1000000:=by have:=congrArg List.length hdn;simp at this;omega
   have hdn2:(dn++[A'.length])++plF t (A'.length+1+(rowF ks').length)=T:=by rw[<- hdn];simp[plF]
   have hlf:t.len<=1000000:=by
    have h1:=len_rowF t
    have h2:=congrArg List.length hA2
    simp at h2
    omega
   have hA3:L=(A'++(n',ks'.len)::rowF ks')++(rowF t++R):=by rw[hA2];simp
   have hA3l:(A'++(n',ks'.len)::rowF ks').length=A'.length+1+(rowF ks').length:=by simp;omega
   obtain⟨v',w',hrun,h2,h3⟩:=append_int wr 34 _ _ _ ho hB.size A'.length (by omega)
   have hb':Below w.heap.size w w':=(hB.alloc hB.size _).trans (((It.Upd.refl (λk=>w.heap.size<=k) _).grown h3 (λk e=>.inl (ho.lt k e).1)).below (Nat.le_trans hB.size (by simp)) (λk e=>e))
   have cb:=behind_c w' gl lc L (HN.out.below hb' (λk e=>by cases e;exact hgl)) HK.out A'.length (by omega)
   rw[hb] at cb
   have ho':OI w' w.heap.size v' (dn++[A'.length]):=by
    unfold OI
    rw[z8z,List.map_append]
    exact h2
   obtain⟨o',c',hv'⟩:=slice_ofX h2
   subst hv'
   rw[ln]
   obtain⟨u,hu⟩:∃u,t.len+1=u:=⟨_,rfl⟩
   rw[hu]
   have HU:=hid hu
   have k1:((u:Nat):Int)>0:=by omega
   have k2:((A'.length:Nat):Int)<L.length:=by omega
   have k3:z2z.wrap (((u:Nat):Int)-1)=(t.len:Nat):=by rw[z3z];omega
   have HO:=hid ho'
   have HB:=hid hb'
   have HD:=hid hdn2
   have HA3:=hid hA3
   have HA4:=hid hA3l
   generalize hp:A'.length+1+(rowF ks').length=p at *
   have HPP:=hid hp
   generalize hat:A'.length=a at *
   clear hp hat ho hB ho' hb' h2 h3 hb hdn hdn2 hA hA2 hA3 hA3l e ln hdl hlf hlt2 hlt3 hu
   go_wp2_with (first|(at_builtin;refine Lib.wpList_append_run _ rfl (.tmp 33) (.tmp 35) 34 34 rfl _ _ (by simp[Act.eval]) (by simp[Act.eval]) _ _ hrun ?_)|(go_at_call 28;(with_reducible refine cb.mono ?_);rintro e w5 ⟨rfl,hw5⟩;(have hw5':=hw5.symm);subst hw5';clear hw5))
   go_roundw
   case rel=>exact⟨_,t,dn++[a],HA3.out,by rw[HA4.out],rfl,by rw[HA4.out];exact HD.out,⟨o',c',by simp⟩,HO.out,HB.out⟩
   case measure=>(have:=HU.out;show ((t.len:Nat):Int).toNat<((u:Nat):Int).toNat;omega)
def kidV(ks:List Nat):List (Array Value):=ks.map λk=>#[iv k]
theorem kidV_len(ks:List Nat):(kidV ks).length=ks.length:=by simp[kidV]
theorem kidV_at(ks:List Nat)(j:Nat)(hj:j<(kidV ks).length):(kidV ks)[j] = #[.int .i64 ((ks.getD j 0:Nat):Int)]:=by
 have h:j<ks.length:=by simpa [kidV] using hj
 simp[kidV,iv,h]
theorem own_int{W:World}{m:Nat}{v:Value}{ks:List Nat}(h:OI W m v ks){i:Nat}(hi:i<ks.length):∃g c,v=.slice (some ⟨g,0,none⟩) ks.length c/\ks.length<=c/\W.cell? ⟨g,i,none⟩=some (.int .i64 ((ks.getD i 0:Nat):Int)):=by
 rcases h.2 with⟨_,e0⟩|⟨g,c,cur,rfl,h2,h3,h4,h5,h6,h7⟩
 ·omega
 ·refine⟨g,c,rfl,h4,?_⟩
  have e1:(ks.map iv)[i]? = some (.int .i64 ((ks.getD i 0:Nat):Int)):=by
   rw[List.getElem?_map,z16z,z11z hi];rfl
  rw[cell_of_row _ g _ _ _ _ h3,<- e1,<- h7,List.getElem?_take,if_pos (by omega),Array.getElem?_toList]
theorem eg_kids:∀args w,(callFunc 18 args).run prog w=.ok (.enter 18 args) w:=enters_of func18 (by kernel_rfl) rfl
theorem kids_iter(sb m:Nat)(v:Value)(ks:List Nat)(hl:ks.length<=2000000):IterD 18 #[.pointer (some ⟨sb,0,none⟩)] (kidV ks) (λW=>W.cell? ⟨sb,0,none⟩=some v/\OI W m v ks):=by
 intro n l J X hn hL hB hY D0 W h0
 show CallsIn Fence.wide n prog 18 #[.func (.yield l) #[] #[],.pointer (some ⟨sb,0,none⟩)] W λe W'=>(∃v,e=.returned v)/\((∃D',J (kidV ks).length D' W')\/X W')
 obtain⟨⟨g0,g1⟩,-⟩:=hL 0 D0 W h0
 obtain⟨o,cap,rfl⟩:=slice_ofX g1
 clear g1
 have HL:=hid hL
 have HY:=hid hY
 have H0:=hid h0
 refine callsIn_of_wp func18 rfl trivial ?_ rfl
 simp only[ntmps18,List.size_toArray,z7z,z13z,Nat.reduceAdd,Nat.reduceSub,Array.replicate_succ,Array.replicate_zero,List.push_toArray,List.append_toArray,List.nil_append,z9z]
 clear hY hL hB h0
 refine wpIn_wide.2 ?_
 go_upto_region 1 with fail
 go_loopw [7] (λi' wr=>∃ (j:Nat) (D:Nat->Prop),j<=ks.length/\i'=.int .i64 (j:Nat)/\J j D wr) (λi' _=>ks.length-(intOf i').toNat)
 case atStart=>exact⟨0,D0,z15z _,rfl,H0.out⟩
 case round=>
  obtain⟨j,D,hj,rfl,hJ⟩:=hrel
  clear H0 g0
  obtain⟨gr,gw⟩:=(HL.out j D wr hJ).1
  by_cases hlt:j<ks.length
  case neg=>
   have b0:¬ ((j:Nat):Int)<ks.length:=by omega
   have he:j=ks.length:=by omega
   have HJ:=hid hJ
   clear hJ gr gw
   go_wp2
   go_end0
   exact⟨⟨_,rfl⟩,.inl ⟨D,by rw[kidV_len,<- he];exact HJ.out⟩⟩
  have b0:((j:Nat):Int)<ks.length:=by omega
  have b1:(0:Int)<=j:=by omega
  have hj2:j<(kidV ks).length:=by rw[kidV_len];exact hlt
  obtain⟨g,c,eo,hc,hcell⟩:=own_int gw hlt
  simp only[Value.slice.injEq,true_and] at eo
  obtain⟨rfl,rfl⟩:=eo
  have yy:=HY.out j hj2 D _ hJ
  rw[kidV_at] at yy
  generalize ks.getD j 0=b at *
  have y2:YieldAt Fence.wide (n-1) prog l #[.int .i64 (b:Nat)] wr λe W'=>(e=.returned (.bool true)/\(∃D',J (j+1) D' W')/\(∀k,k<wr.heap.size->¬D k->W'.heap[k]? = wr.heap[k]?))\/(e=.returned (.bool false)/\X W'):=yy
  obtain⟨fn',tmps,assign,body,hy,hR⟩:=y2
  have e1:z2z.wrap ((j:Int)+1)=((j+1:Nat):Int):=by rw[z3z];omega
  clear yy hJ gw
  go_upto_region 3 with fail
  refine(wpIn_wide (n:=n)).1 ?_
  gi_wp2
  refine hR.mono ?_
  rintro e W3 (⟨rfl,hK3,-⟩|⟨rfl,hX3⟩)
  ·have K3:=hid hK3
   clear hK3 hy hR
   gi_wp2
   go_wp2
   go_roundw
   case rel=>
    obtain⟨D',hD'⟩:=K3.out
    exact⟨j+1,D',by omega,by first|rfl|go_num,hD'⟩
   case measure=>show ks.length-((j+1:Nat):Int).toNat<ks.length-(j:Int).toNat;omega
  ·clear hy hR
   gi_wp2
   go_wp2
   refine bodyPost_ret (results_none rfl _ _ _) rfl ?_
   exact⟨⟨_,rfl⟩,.inr hX3⟩
theorem kidsF_c(w:World)(gl lc:Nat)(L:List (Nd × Nat))(hN:NR w (.slice (some ⟨gl,0,none⟩) L.length lc) L)(hgl:gl<w.heap.size)(hK:∀p ∈ L,p.2<=1000000)(A:List (Nd × Nat))(n:Nd)(ks:Fo)(R:List (Nd × Nat))(hL:L=A++((n,ks.len)::rowF ks++R)) :
  Calls prog 11 #[.slice (some ⟨gl,0,none⟩) L.length lc,.int .i64 (A.length:Nat)] w λe w'=>∃sb r,e=.returned (.func (.func 18) #[] #[.pointer (some ⟨sb,0,none⟩)])/\Below w.heap.size w w'/\w'.heap[sb]? = some (.cells #[r] 34 (0,0))/\OI w' w.heap.size r (plF ks (A.length+1))/\w.heap.size<=sb/\sb+1=w'.heap.size/\∀k,r.ownBlock=some k->k<sb:=by
 have ck:=kidPlaces_c w gl lc L hN hgl hK A n ks R hL
 generalize A.length=i at *
 generalize plF ks (i+1)=T at *
 clear hN hK hL
 go_enter func11,ntmps11
 go_wp2_with (go_at_call 17;(with_reducible refine ck.mono ?_);rintro e w2 ⟨r,rfl,hB2,ho2⟩;(obtain⟨o,c,rfl⟩:=slice_ofX ho2);(have HB:=hid hB2);(have HO:=hid ho2);clear hB2 ho2 ck)
 go_ret
 have b3:Below w2.heap.size w2 (w2.alloc (.cells #[.slice o T.length c] 34)):=(z4z _ w2).alloc (z0z _) _
 exact⟨w2.heap.size,_,rfl,HB.out.trans (b3.mono HB.out.size),z5z w2 _,HO.out.below b3,HB.out.size,by simp,λk e=>(HO.out.lt k e).2⟩
def klF:Fo->Nat->List (List Nat)
 | .nil,_=>[]
 | .cons n ks r,b=>plF ks (b+1)::(klF ks (b+1)++klF r (b+1+(rowF ks).length))
theorem klF_len:∀ (f:Fo) (b:Nat),(klF f b).length=(rowF f).length
 | .nil,b=>rfl
 | .cons n ks r,b=>by
  simp only[klF,rowF,z7z,z8z]
  rw[klF_len ks,klF_len r]
theorem kl_count:∀ (f:Fo) (b k:Nat),(klF f b).flatten.count k+(plF f b).count k=if b<=k/\k<b+(rowF f).length then 1 else 0
 | .nil,b,k=>by
  rw[if_neg (by simp[rowF])]
  rfl
 | .cons n ks r,b,k=>by
  have h1:=kl_count ks (b+1) k
  have h2:=kl_count r (b+1+(rowF ks).length) k
  have el:(rowF (Fo.cons n ks r)).length=1+(rowF ks).length+(rowF r).length:=by simp[rowF];omega
  have ec:(b::plF r (b+1+(rowF ks).length)).count k=(plF r (b+1+(rowF ks).length)).count k+(if b=k then 1 else 0):=by
   rw[z18z]
   by_cases h:b=k <;> simp[h]
  simp only[klF,plF,List.flatten_cons,List.flatten_append,z17z]
  rw[ec,el]
  split at h1 <;> split at h2 <;> (repeat' split) <;> omega
theorem row_kl:∀ (f:Fo) (b i:Nat),i<(rowF f).length->∃A n ks R,rowF f=A++((n,ks.len)::rowF ks++R)/\A.length=i/\(klF f b)[i]? = some (plF ks (b+i+1))
 | .nil,b,i,h=>by simp[rowF] at h
 | .cons n ks t,b,i,h=>by
  have e:rowF (Fo.cons n ks t)=(n,ks.len)::(rowF ks++rowF t):=rfl
  have e2:klF (Fo.cons n ks t) b=plF ks (b+1)::(klF ks (b+1)++klF t (b+1+(rowF ks).length)):=rfl
  rw[e] at h ⊢
  rw[e2]
  cases i with
  | zero=>exact⟨[],n,ks,rowF t,by simp,rfl,rfl⟩
  | succ i=>
   simp at h
   rcases Nat.lt_or_ge i (rowF ks).length with hi|hi
   ·obtain⟨A,m,q,R,h1,h2,h3⟩:=row_kl ks (b+1) i hi
    refine⟨(n,ks.len)::A,m,q,R++rowF t,?_,by simp[h2],?_⟩
    ·rw[z9z]
     congr 1
     rw[show A++((m,q.len)::rowF q++(R++rowF t))=(A++((m,q.len)::rowF q++R))++rowF t by simp,<- h1]
    ·rw[List.getElem?_cons_succ,List.getElem?_append_left (by rw[klF_len];exact hi),h3]
     congr 2
     omega
   ·obtain⟨A,m,q,R,h1,h2,h3⟩:=row_kl t (b+1+(rowF ks).length) (i-(rowF ks).length) (by omega)
    refine⟨(n,ks.len)::(rowF ks++A),m,q,R,?_,by simp[h2];omega,?_⟩
    ·rw[z9z]
     congr 1
     rw[h1]
     simp
    ·rw[List.getElem?_cons_succ,z10z (by rw[klF_len];exact hi),klF_len,h3]
     congr 2
     omega
def metK(f:Fo)(i k:Nat):Nat:=((klF f 0).take i).flatten.count k
theorem metK_all(nd:Nd)(m:Fo)(k:Nat)(hk:k<(rowF (Fo.one nd m)).length):metK (Fo.one nd m) (rowF (Fo.one nd m)).length k=if 0<k then 1 else 0:=by
 unfold metK
 rw[z19z (by rw[klF_len];exact z0z _)]
 have h:=kl_count (Fo.one nd m) 0 k
 rw[if_pos (by omega)] at h
 have e:(plF (Fo.one nd m) 0).count k=if 0<k then 0 else 1:=by
  have:plF (Fo.one nd m) 0=[0]:=rfl
  rw[this]
  cases k with
  | zero=>rfl
  | succ k=>rw[z18z];simp
 rw[e] at h
 split at h <;> split <;> omega
theorem metK_succ(f:Fo)(i k:Nat)(l:List Nat)(h:(klF f 0)[i]? = some l):metK f (i+1) k=metK f i k+l.count k:=by
 unfold metK
 rw[List.take_add_one,h]
 simp[z17z]
theorem metK_le(f:Fo)(i k:Nat):metK f i k<=1:=by
 have h:=kl_count f 0 k
 have h2:metK f i k<=(klF f 0).flatten.count k:=by
  unfold metK
  conv=>rhs;rw[<- List.take_append_drop i (klF f 0),List.flatten_append,z17z]
  omega
 split at h <;> omega
theorem plF_rise:∀ (f:Fo) (b j:Nat),j+1<(plF f b).length->(plF f b).getD j 0<(plF f b).getD (j+1) 0
 | .nil,b,j,h=>by simp[plF] at h
 | .cons n ks r,b,0,h=>by
  have e:plF (Fo.cons n ks r) b=b::plF r (b+1+(rowF ks).length):=rfl
  rw[e] at h ⊢
  simp only[z7z] at h
  have hm:(plF r (b+1+(rowF ks).length)).getD 0 0 ∈ plF r (b+1+(rowF ks).length):=by
   rw[z16z,z11z (by omega)]
   exact List.getElem_mem _
  have:=plF_in r _ _ hm
  simp only[List.getD_cons_zero,List.getD_cons_succ]
  omega
 | .cons n ks r,b,j+1,h=>by
  have e:plF (Fo.cons n ks r) b=b::plF r (b+1+(rowF ks).length):=rfl
  rw[e] at h ⊢
  simp only[z7z] at h
  simp only[List.getD_cons_succ]
  exact plF_rise r _ j (by omega)
theorem underB:prog.underlying 4=some .bool:=by kernel_rfl
theorem load_bool(w:World)(b:Nat)(v:Value)(h:w.cell? ⟨b,0,none⟩=some v):(loadVar 4 ⟨b,0,none⟩).run prog w=.ok v w:=by
 simp[loadVar,isAgg,run_underlying underB,h,go_sem]
theorem bool_ret{fn:Func}{p:Tmp}(h:fn.results = #[.cell p 4])(tmps:Array Value)(w:World)(b:Nat)(v:Value)(hp:tmps.getD p undef=.pointer (some ⟨b,0,none⟩))(hg:w.cell? ⟨b,0,none⟩=some v):(results fn tmps).run prog w=.ok v w:=by
 have hl:=load_bool w b v hg
 have hp':tmps[p]?.getD undef=.pointer (some ⟨b,0,none⟩):=by simpa using hp
 simp[results,h,hp',asAddr,hl]
theorem kids_long(src:ByteArray)(h:6000<src.size)(w:World):Calls prog 5 #[.string src] w λe w'=>e=.returned (.bool true)/\Below w.heap.size w w':=by
 have j1:((src.size:Nat):Int)>6000:=by omega
 have hn:=z5z w (.cells #[.bool false] 4)
 have hs:(w.alloc (.cells #[.bool true] 4)).cell? ⟨w.heap.size,0,none⟩=some (.bool true):=row_cellsX (z5z w _) 0
 have hB:Below w.heap.size w (w.alloc (.cells #[.bool true] 4)):=(z4z _ w).alloc (z0z _) _
 have HS:=hid hs
 have HB:=hid hB
 clear hs hB hn
 go_enter func5,ntmps5
 go_wp2_with fail
 refine bodyPost_ret (bool_ret results5 _ _ w.heap.size _ (by simp) HS.out) rfl ?_
 exact⟨rfl,HB.out⟩
theorem list89(f:Nat->Value):(List.range 89).map f=[f 0,f 1,f 2,f 3,f 4,f 5,f 6,f 7,f 8,f 9,f 10,f 11,f 12,f 13,f 14,f 15,f 16,f 17,f 18,f 19,f 20,f 21,f 22,f 23,f 24,f 25,f 26,f 27,f 28,f 29,f 30,f 31,f 32,f 33,f 34,f 35,f 36,f 37,f 38,f 39,f 40,f 41,f 42,f 43,f 44,f 45,f 46,f 47,f 48,f 49,f 50,f 51,f 52,f 53,f 54,f 55,f 56,f 57,f 58,f 59,f 60,f 61,f 62,f 63,f 64,f 65,f 66,f 67,f 68,f 69,f 70,f 71,f 72,f 73,f 74,f 75,f 76,f 77,f 78,f 79,f 80,f 81,f 82,f 83,f 84,f 85,f 86,f 87,f 88]:=rfl
def kact(x2 x3 x5 x6:Value)(u:Nat->Value):Array Value:=#[u 0,u 1,x2,x3,u 4,x5,x6,u 7,u 8,u 9,u 10,u 11,u 12,u 13,u 14,u 15,u 16,u 17,u 18,u 19,u 20,u 21,u 22,u 23,u 24,u 25,u 26,u 27,u 28,u 29,u 30,u 31,u 32,u 33,u 34,u 35,u 36,u 37,u 38,u 39,u 40,u 41,u 42,u 43,u 44,u 45,u 46,u 47,u 48,u 49,u 50,u 51,u 52,u 53,u 54,u 55,u 56,u 57,u 58,u 59,u 60,u 61,u 62,u 63,u 64,u 65,u 66,u 67,u 68,u 69,u 70,u 71,u 72,u 73,u 74,u 75,u 76,u 77,u 78,u 79,u 80,u 81,u 82,u 83,u 84,u 85,u 86,u 87,u 88]
theorem kact_of(t:Array Value){x2 x3 x5 x6:Value}(hs:t.size=89)(h2:t.getD 2 undef=x2)(h3:t.getD 3 undef=x3)(h5:t.getD 5 undef=x5)(h6:t.getD 6 undef=x6):∃u,t=kact x2 x3 x5 x6 u:=by
 refine⟨λn=>t.getD n undef,?_⟩
 subst h2 h3 h5 h6
 have e:t.toList=(List.range 89).map (λn=>t.getD n undef):=by
  apply z20z
  intro i
  by_cases hi:i<89
  ·rw[List.getElem?_map,List.getElem?_range hi]
   simp[hi,hs]
  ·rw[List.getElem?_eq_none (by simp;omega),List.getElem?_eq_none (by simp;omega)]
 rw[list89] at e
 have:t=t.toList.toArray:=by simp
 rw[this,e]
 rfl
def metV(n:Nat)(cnt:Nat->Nat):List Value:=(List.range n).map λk=>Value.int .i64 (cnt k:Nat)
theorem metV_at(n:Nat)(cnt:Nat->Nat)(k:Nat)(hk:k<n):(metV n cnt).toArray[k]? = some (.int .i64 (cnt k:Nat)):=by
 simp[metV,hk]
theorem metV_set(n:Nat)(cnt:Nat->Nat)(k:Nat)(hk:k<n):(metV n cnt).set k (.int .i64 ((cnt k+1:Nat):Int))=metV n (λx=>cnt x+if x=k then 1 else 0):=by
 apply z20z
 intro i
 rw[List.getElem?_set]
 by_cases h:k=i
 ·subst h
  simp[metV,hk]
 ·rw[if_neg h]
  by_cases hi:i<n
  ·have:¬i=k:=λe=>h e.symm
   simp[metV,hi,this]
  ·simp[metV,hi]
structure Kq (w W:World) (lb mb xb gl lc:Nat) (L:List (Nd × Nat)) (cnt:Nat->Nat):Prop where
 bel:Below w.heap.size w W
 res:W.heap[w.heap.size]? = some (.cells #[.bool false] 4 (0,0))
 lbox:W.heap[lb]? = some (.cells #[.slice (some ⟨gl,0,none⟩) L.length lc] 23 (0,0))
 lrow:NR W (.slice (some ⟨gl,0,none⟩) L.length lc) L
 lcur:∃cur,W.heap[gl]? = some (.cells cur 40 (0,0))
 mbox:W.heap[xb]? = some (.cells #[.slice (some ⟨mb,0,none⟩) L.length L.length] 34 (0,0))
 mrow:W.heap[mb]? = some (.cells (metV L.length cnt).toArray 3 (0,0))
 og:w.heap.size<gl
 ol:w.heap.size<lb
 om:w.heap.size<mb
 ox:w.heap.size<xb
section
variable {w W W':World} {lb mb xb gl lc:Nat} {L:List (Nd × Nat)} {cnt:Nat->Nat} {S:Nat->Prop}
theorem Kq.lt(q:Kq w W lb mb xb gl lc L cnt):w.heap.size<W.heap.size/\lb<W.heap.size/\gl<W.heap.size/\xb<W.heap.size/\mb<W.heap.size:=by
 obtain⟨cur,hc⟩:=q.lcur
 exact⟨(z1z.1 q.res).1,(z1z.1 q.lbox).1,(z1z.1 hc).1,(z1z.1 q.mbox).1,(z1z.1 q.mrow).1⟩
theorem nr_keep{g c n:Nat}{L:List (Nd × Nat)}(h:NR W (.slice (some ⟨g,0,none⟩) n c) L){cur:Array Value}{t:TypeId}(h1:W.heap[g]? = some (.cells cur t (0,0)))(h2:W'.heap[g]? = some (.cells cur t (0,0))):NR W' (.slice (some ⟨g,0,none⟩) n c) L:=by
 obtain⟨g',c',e,hl,hc⟩:=h
 simp only[Value.slice.injEq,Option.some.injEq,Addr.mk.injEq,true_and,and_true] at e
 obtain⟨rfl,rfl,rfl⟩:=e
 refine⟨g,c,rfl,hl,λi p hp j hj=>?_⟩
 rw[<- hc i p hp j hj,row_cellsX h1,row_cellsX h2]
theorem Kq.keep(q:Kq w W lb mb xb gl lc L cnt)(hU:It.Upd S W W')(hS:∀k,S k->w.heap.size<k/\k≠lb/\k≠gl/\k≠mb/\k≠xb):Kq w W' lb mb xb gl lc L cnt:=by
 obtain⟨l1,l2,l3,l4,l5⟩:=q.lt
 obtain⟨cur,hc⟩:=q.lcur
 have hg:W'.heap[gl]? = some (.cells cur 40 (0,0)):=(hU.block _ l3 (λe=>(hS _ e).2.2.1 rfl)).trans hc
 exact⟨q.bel.trans (hU.below (by omega) (λk e=>by have:=(hS k e).1;omega)),(hU.block _ l1 (λe=>by have:=(hS _ e).1;omega)).trans q.res,(hU.block _ l2 (λe=>(hS _ e).2.1 rfl)).trans q.lbox,nr_keep q.lrow hc hg,⟨cur,hg⟩,(hU.block _ l4 (λe=>(hS _ e).2.2.2.2 rfl)).trans q.mbox,(hU.block _ l5 (λe=>(hS _ e).2.2.2.1 rfl)).trans q.mrow,q.og,q.ol,q.om,q.ox⟩
theorem Kq.below(q:Kq w W lb mb xb gl lc L cnt)(hB:Below W.heap.size W W'):Kq w W' lb mb xb gl lc L cnt:=
 q.keep (S:=λ_=>False) (It.Upd.of_below hB) (λk e=>e.elim)
theorem Kq.ne(q:Kq w W lb mb xb gl lc L cnt):lb≠mb/\gl≠mb/\lb≠gl/\xb≠mb:=by
 obtain⟨cur,hc⟩:=q.lcur
 refine⟨?_,?_,?_,?_⟩
 ·rintro rfl
  have:=q.lbox
  rw[q.mrow] at this
  simp only[Option.some.injEq,Obj.cells.injEq] at this
  exact absurd this.2.1 (by decide)
 ·rintro rfl
  rw[q.mrow] at hc
  simp only[Option.some.injEq,Obj.cells.injEq] at hc
  exact absurd hc.2.1 (by decide)
 ·rintro rfl
  have:=q.lbox
  rw[hc] at this
  simp only[Option.some.injEq,Obj.cells.injEq] at this
  exact absurd this.2.1 (by decide)
 ·rintro rfl
  have:=q.mbox
  rw[q.mrow] at this
  simp only[Option.some.injEq,Obj.cells.injEq] at this
  exact absurd this.2.1 (by decide)
theorem Kq.met(q:Kq w W lb mb xb gl lc L cnt)(k:Nat)(hk:k<L.length):Kq w (W.setCell ⟨mb,k,none⟩ (.int .i64 ((cnt k+1:Nat):Int))) lb mb xb gl lc L (λx=>cnt x+if x=k then 1 else 0):=by
 obtain⟨cur,hc⟩:=q.lcur
 obtain⟨n1,n2,_,n4⟩:=q.ne
 have hs:=heap_setX q.mrow k (.int .i64 ((cnt k+1:Nat):Int))
 rw[metV_set _ _ _ hk] at hs
 have hg:(W.setCell ⟨mb,k,none⟩ (.int .i64 ((cnt k+1:Nat):Int))).heap[gl]? = some (.cells cur 40 (0,0)):=(z6z _ _ _ _ n2).trans hc
 have om:=q.om
 exact⟨q.bel.setCell (p:=⟨mb,k,none⟩) (Nat.le_of_lt om) _,(z6z _ _ _ _ (by show w.heap.size≠mb;omega)).trans q.res,(z6z _ _ _ _ n1).trans q.lbox,nr_keep q.lrow hc hg,⟨cur,hg⟩,(z6z _ _ _ _ n4).trans q.mbox,hs,q.og,q.ol,q.om,q.ox⟩
end
theorem kids_bad(src:ByteArray)(hs:¬6000<src.size)(f:Flt)(hE:Ends src.data.toList (.error f))(w:World)(ht:Tabs w)(hm:MarksIn w):Calls prog 5 #[.string src] w λe w'=>e=.returned (.bool true)/\Below w.heap.size w w':=by
 have hc:=ends_code hE
 have j1:¬ ((src.size:Nat):Int)>6000:=by omega
 have b1:Below w.heap.size w (w.alloc (.cells #[.bool false] 4)):=(z4z _ w).alloc (z0z _) _
 have hn:=z5z w (.cells #[.bool false] 4)
 have cp:=parse_bad src (by omega) _ (ht.below b1) (hm.below b1) hE
 unfold fv at cp
 have j2:(f.1 != 0)=true:=by simpa using hc
 have j3:(f.1==0)=false:=by simpa using hc
 have HT:=hid ht
 have HM:=hid hm
 clear hE ht hm hs hc
 generalize f.1=fc at *
 generalize f.2=ft at *
 go_enter func5,ntmps5
 go_wp2_with (first|(go_at_call 7;(with_reducible refine cp.mono ?_);rintro e w2 ⟨rfl,hB2⟩;(have h2:=b1.trans (hB2.mono b1.size));(have b3:Below w2.heap.size w2 ((w2.alloc (.cells #[.slice none 0 0] 23)).alloc (.cells #[.int .i64 fc,.int .i64 ft] 26)):=((z4z _ w2).alloc (z0z _) _).alloc (by simp) _);(have HB3:=hid (h2.trans (b3.mono h2.size)));(have HN3:=hid (row_keepX (row_keepX hn hB2) b3));clear hB2 h2 b3 cp hn b1)|(go_at_call 8;(with_reducible refine(awake12_c _ (HT.out.below HB3.out) (HM.out.below HB3.out)).mono ?_);rintro e w6 ⟨rfl,hB6⟩;(have f6:=row_keepX HN3.out hB6);(have c6:=row_cellsX f6 0);(have z6:=row_thawX f6 0);simp only[List.getElem?_toArray,List.getElem?_cons_zero] at c6;(have HB6:=hid (HB3.out.trans (hB6.mono HB3.out.size)));(have HS:=hid (row_cellsX (heap_setX (c:=[.bool false]) f6 0 (.bool true)) 0));clear hB6 f6))
 refine bodyPost_ret (bool_ret results5 _ _ w.heap.size (.bool true) (by simp) HS.out) rfl ?_
 exact⟨rfl,HB6.out.setCell (p:=⟨w.heap.size,0,none⟩) (z0z _) _⟩
theorem kids_le(f:Fo):∀p ∈ rowF f,p.2<=(rowF f).length:=by
 intro p hp
 obtain⟨i,hi⟩:=List.getElem?_of_mem hp
 obtain⟨A,n,ks,R,h1,h2⟩:=row_at f i (z21z.1 hi).1
 rw[h1,<- h2,z10z (z0z _)] at hi
 simp at hi
 subst hi
 have:=len_rowF ks
 rw[h1]
 simp
 omega
theorem madeI(v:Value)(n:Nat):(madeCells #[v] n).toList=List.replicate n v:=by
 apply z20z
 intro i
 by_cases hi:i<n
 ·rw[List.getElem?_replicate,if_pos hi]
  simp[madeCells,hi,Nat.mod_one]
 ·rw[List.getElem?_replicate,if_neg hi]
  simp[madeCells,hi]
theorem make_met(w:World)(n:Nat)(hn:n<=1000000):∃w',(Instr.makeSlice 34 (.int .i64 (n:Int)) (.int .i64 (n:Int))).run prog w=.ok (.slice (some ⟨w.heap.size,0,none⟩) n n) w'/\w'.heap[w.heap.size]? = some (.cells (metV n (λ_=>0)).toArray 3 (0,0))/\Below w.heap.size w w':=by
 obtain⟨i0,hi,hz0,hz1,hz2⟩:=info_parts infoI
 obtain⟨w',h1,h2,h3⟩:=run_makeSlice_full (P:=prog) w w.heap.size 34 3 i0 (.int .i64 0) 1 underI hi hz0 hz1 .i64 .i64 n (by omega) (by rw[hz2];omega) (by simp[maxLen];omega) (z0z _)
 have e:(madeCells (Value.int .i64 0).cells (n*1)).toList=metV n (λ_=>0):=by
  rw[Nat.mul_one]
  have:=madeI (.int .i64 0) n
  rw[show (Value.int .i64 0).cells = #[.int .i64 0] from rfl,this]
  unfold metV
  rw[List.map_const',List.length_range]
  rfl
 rw[e] at h2
 have hlt:=(h2.lt _ rfl).2
 have hU:It.Upd (λ_=>False) w w':=(It.Upd.refl (λ_=>False) w).grown h3 (λk e=>by cases e)
 refine⟨w',h1,?_,hU.below (z0z _) (λk e=>e.elim)⟩
 ·rcases h2.2 with⟨hv,_⟩|⟨g,cap,cur,hv,_,hg,_,_,hsz,htk⟩
  ·cases hv
  ·cases hv
   rw[hg]
   have:cur.toList=metV n (λ_=>0):=by
    rw[<- htk,z19z (by rw[Array.length_toList,hsz];exact z0z _)]
   rw[<- this]
structure Kj (w W4:World) (lb mb xb gl lc nb lo sb:Nat) (kv:Value) (L:List (Nd × Nat)) (f:Fo) (i:Nat) (pl:List Nat) (j:Nat) (D:Nat->Prop) (W:World):Prop where
 q:Kq w W lb mb xb gl lc L (λk=>metK f i k+(pl.take j).count k)
 nbx:W.heap[nb]? = some (.cells #[.int .i64 (j:Nat)] 3 (0,0))
 lst:W.heap[nb+1]? = some (.cells #[.int .i64 ((if j=0 then i else pl.getD (j-1) 0:Nat):Int)] 3 (0,0))
 dd:∀k,D k↔k=mb\/k=nb\/k=nb+1
 box:W.heap[sb]? = some (.cells #[kv] 34 (0,0))
 kr:OI W lo kv pl
 kb:∀k,kv.ownBlock=some k->k<sb
 o1:lb<nb/\mb<nb/\xb<nb/\gl<nb/\w.heap.size<nb
 o2:nb+2=lo
 o3:lo<=sb
 lt:sb+1=W4.heap.size
 sz:W4.heap.size<=W.heap.size
 keep:∀k:Nat,W4.heap[k]? = some (.deferred (some []))->W.heap[k]? = some (.deferred (some []))
theorem Kj.upd{w W4 W W':World}{lb mb xb gl lc nb lo sb i j:Nat}{kv:Value}{L:List (Nd × Nat)}{f:Fo}{pl:List Nat}{D:Nat->Prop}(h:Kj w W4 lb mb xb gl lc nb lo sb kv L f i pl j D W)(hu:It.Upd (λk=>k=W4.heap.size+1) W W'):Kj w W4 lb mb xb gl lc nb lo sb kv L f i pl j D W':=by
 obtain⟨a1,a2,a3,a4,a5⟩:=h.o1
 have:=h.o2
 have:=h.o3
 have:=h.lt
 have:=h.sz
 refine⟨h.q.keep hu (λk e=>⟨by omega,by omega,by omega,by omega,by omega⟩),(hu.block _ (by omega) (by omega)).trans h.nbx,(hu.block _ (by omega) (by omega)).trans h.lst,h.dd,(hu.block _ (by omega) (by omega)).trans h.box,owns_onX h.kr (λk e=>hu.block k (by have:=h.kb k e;omega) (by have:=h.kb k e;omega)),h.kb,h.o1,h.o2,h.o3,h.lt,Nat.le_trans h.sz hu.size,λk hk=>(hu.block k ?_ ?_).trans (h.keep k hk)⟩
 ·exact(z1z.1 (h.keep k hk)).1
 ·have:=(z1z.1 hk).1;omega
theorem zip_one(t:Array Value)(p1:Nat)(v1:Value):((#[p1]:Array Tmp).zip #[v1]).foldl (λt (p,v)=>t.setIfInBounds p v) t=t.setIfInBounds p1 v1:=by
 simp
theorem take_cnt(pl:List Nat)(j k:Nat)(hj:j<pl.length):(pl.take (j+1)).count k=(pl.take j).count k+(if k=pl.getD j 0 then 1 else 0):=by
 rw[List.take_succ_eq_append_getElem hj,z17z,z16z,z11z hj]
 simp only[Option.getD_some,z18z,List.count_nil,z14z]
 by_cases h:k=pl[j]
 ·rw[if_pos h,h];simp
 ·rw[if_neg h]
  have:¬pl[j]=k:=λe=>h e.symm
  simp[this]
theorem kids_good(src:ByteArray)(hs:¬6000<src.size)(f:Fo)(s':Cs)(hE:Ends src.data.toList (.ok (f,s')))(w:World)(ht:Tabs w)(hm:MarksIn w):Calls prog 5 #[.string src] w λe w'=>e=.returned (.bool true)/\Below w.heap.size w w':=by
 obtain⟨nd,md,hf⟩:∃nd m,f=Fo.one nd m:=by obtain⟨n,h⟩:=hE;exact pg_form' n _ _ _ _ h
 obtain⟨L,hL⟩:∃L,rowF f=L:=⟨_,rfl⟩
 have hfew:=hE.few
 have hpos:0<L.length:=by rw[<- hL,hf];simp[Fo.one,rowF]
 have hkl:=kids_le f
 rw[hL] at hfew hkl
 have hK:∀p ∈ L,p.2<=1000000:=λp hp=>by have:=hkl p hp;omega
 have j1:¬ ((src.size:Nat):Int)>6000:=by omega
 have b1:Below w.heap.size w (w.alloc (.cells #[.bool false] 4)):=(z4z _ w).alloc (z0z _) _
 have hn:=z5z w (.cells #[.bool false] 4)
 have cp:=parse_good src (by omega) _ (ht.below b1) (hm.below b1) hE
 rw[hL] at cp
 have cp2:Calls prog 7 #[.string src] (w.alloc (.cells #[.bool false] 4)) λe w'=>∃g cap,e=.returned (.tuple #[.slice (some ⟨g,0,none⟩) L.length cap,.agg #[.int .i64 0,.int .i64 0]])/\Below (w.alloc (.cells #[.bool false] 4)).heap.size (w.alloc (.cells #[.bool false] 4)) w'/\w.heap.size+1<=g/\g<w'.heap.size/\NR w' (.slice (some ⟨g,0,none⟩) L.length cap) L/\∃cur,w'.heap[g]? = some (.cells cur 40 (0,0)):=by
  refine cp.mono ?_
  rintro e w' ⟨r,rfl,hB,ho⟩
  have hnr:=nr_of ho hpos (by omega)
  obtain⟨g,cap,rfl,_⟩:=id hnr
  obtain⟨h1,h2⟩:=ho.lt g rfl
  exact⟨g,cap,rfl,hB,by simpa using h1,h2,hnr,own_kind ho rfl⟩
 have HT:=hid ht
 have HM:=hid hm
 have HK:=hid hK
 have HLr:=hid hL
 have HF:=hid hf
 clear hE ht hm hs cp hkl hK hL hf
 refine(callsIn_wide (n:=9)).1 ?_
 refine callsIn_of_wp_marks func5 rfl trivial ?_ rfl
 refine wpIn_wide.2 ?_
 simp only[ntmps5,List.size_toArray,z7z,z13z,Nat.reduceAdd,Nat.reduceSub,Array.replicate_succ,Array.replicate_zero,List.push_toArray,List.append_toArray,List.nil_append,z9z]
 go_upto_region 6 with(go_at_call 7;(with_reducible refine cp2.mono ?_);rintro e w2 ⟨gl,lc,rfl,hB2,hg1,hg2,hnr,cur,hcur⟩;clear cp2)
 have b3:Below w2.heap.size w2 ((w2.alloc (.cells #[.slice (some ⟨gl,0,none⟩) L.length lc] 23)).alloc (.cells #[.int .i64 0,.int .i64 0] 26)):=((z4z _ w2).alloc (z0z _) _).alloc (by simp) _
 have hl3:=z5z w2 (.cells #[.slice (some ⟨gl,0,none⟩) L.length lc] 23)
 have hl4:=(Below.heap_alloc (w2.alloc (.cells #[.slice (some ⟨gl,0,none⟩) L.length lc] 23)) (.cells #[.int .i64 0,.int .i64 0] 26) w2.heap.size (by simp)).trans hl3
 have hB3:=b1.trans ((hB2.trans (b3.mono hB2.size)).mono b1.size)
 have hr3:=row_keepX (row_keepX hn hB2) b3
 have hc3:=row_keepX hcur b3
 have hn3:=nr_keep hnr hcur hc3
 have hsz3:w.heap.size+1<=w2.heap.size:=by have:=hB2.size;simp at this;omega
 have hsz4:((w2.alloc (.cells #[.slice (some ⟨gl,0,none⟩) L.length lc] 23)).alloc (.cells #[.int .i64 0,.int .i64 0] 26)).heap.size=w2.heap.size+2:=by simp
 generalize hlb:w2.heap.size=lb at *
 generalize z12z (z12z w2 _) _=W3 at *
 have cl:W3.cell? ⟨lb,0,none⟩=some (.slice (some ⟨gl,0,none⟩) L.length lc):=row_cellsX hl4 0
 obtain⟨W4,hmk,hrow4,hB4⟩:=make_met W3 L.length (by omega)
 have q5:Kq w (W4.alloc (.cells #[.slice (some ⟨W3.heap.size,0,none⟩) L.length L.length] 34)) lb W3.heap.size W4.heap.size gl lc L (λ_=>0):=by
  have b5:Below W4.heap.size W4 (W4.alloc (.cells #[.slice (some ⟨W3.heap.size,0,none⟩) L.length L.length] 34)):=(z4z _ W4).alloc (z0z _) _
  have b45:=hB4.trans (b5.mono hB4.size)
  have s4:=hB4.size
  exact⟨hB3.trans (b45.mono hB3.size),row_keepX hr3 b45,row_keepX hl4 b45,nr_keep hn3 hc3 (row_keepX hc3 b45),⟨_,row_keepX hc3 b45⟩,z5z W4 _,row_keepX hrow4 b5,by omega,by omega,by omega,by omega⟩
 have hxm:W3.heap.size<W4.heap.size:=(z1z.1 hrow4).1
 have hord:lb<W3.heap.size/\gl<lb:=by omega
 clear b1 hn hB2 hg2 hnr hcur b3 hl3 hl4 hB3 hr3 hc3 hn3 hrow4 hB4 hsz4
 go_upto_region 8 with fail
 generalize z12z W4 _=W5 at *
 generalize W3.heap.size=mb at *
 generalize W4.heap.size=xb at *
 clear cl hmk
 refine wp_loop (λa' w'=>(a'.tmps.size=89/\a'.tmps.getD 2 undef=.pointer (some ⟨w.heap.size,0,none⟩)/\a'.tmps.getD 3 undef=.pointer (some ⟨lb,0,none⟩)/\a'.tmps.getD 5 undef=.pointer (some ⟨xb,0,none⟩))/\Marks w.heap.size w' a'.defers/\∃i:Nat,a'.tmps.getD 6 undef=.int .i64 (i:Nat)/\i<=L.length/\Kq w w' lb mb xb gl lc L (metK f i)) (λa' _=>L.length-(intOf (a'.tmps.getD 6 undef)).toNat) ?_ ?_
 ·refine⟨⟨rfl,rfl,rfl,rfl⟩,trivial,0,rfl,z15z _,?_⟩
  have e:(λ_:Nat=>0)=metK f 0:=by funext k;simp[metK]
  rw[<- e]
  exact q5
 clear q5
 rintro⟨t,ds⟩ wr ⟨⟨hs,h2,h3,h5⟩,hM,i,h6,hi,q⟩
 simp only at hs h2 h3 h5 h6 hM ⊢
 obtain⟨uu,rfl⟩:=kact_of t hs h2 h3 h5 h6
 clear hs h2 h3 h5 h6
 unfold kact
 have cl:wr.cell? ⟨lb,0,none⟩=some (.slice (some ⟨gl,0,none⟩) L.length lc):=row_cellsX q.lbox 0
 have j2:(0:Int)<=(i:Nat):=by omega
 have HQ:=hid q
 have HMk:=hid hM
 by_cases hlt:i<L.length
 case neg=>
  have hie:i=L.length:=by omega
  have j3:¬ ((i:Nat):Int)<L.length:=by omega
  have cx:wr.cell? ⟨xb,0,none⟩=some (.slice (some ⟨mb,0,none⟩) L.length L.length):=row_cellsX q.mbox 0
  have CM:Hid (∀k,k<L.length->wr.cell? ⟨mb,k,none⟩=some (.int .i64 ((if 0<k then 1 else 0:Nat):Int))):=by
   intro k hk
   have e:=metK_all nd md k (by rw[<- HF.out,HLr.out];exact hk)
   rw[<- HF.out,HLr.out,<- hie] at e
   rw[row_cellsX HQ.out.mrow k,metV_at _ _ _ hk,e]
  have k5:((L.length:Nat):Int)>0:=by omega
  clear q hM
  go_upto_region 22 with fail
  go_loopw [10] (λkv wr'=>∃k:Nat,k<=L.length/\kv=.int .i64 (k:Nat)/\wr'=wr) (λkv _=>L.length-(intOf kv).toNat)
  case atStart=>exact⟨0,z15z _,rfl,rfl⟩
  case round=>
   obtain⟨k,hk,rfl,hw⟩:=hrel
   have hw':=hw.symm
   subst hw'
   clear hw
   by_cases hkl:k<L.length
   ·have c1:=CM.out k hkl
    have k1:((k:Nat):Int)<L.length:=by omega
    have k2:(0:Int)<=(k:Nat):=by omega
    have k3:z2z.wrap ((k:Int)+1)=((k+1:Nat):Int):=by rw[z3z];omega
    by_cases hk0:0<k
    ·rw[if_pos hk0] at c1
     have k4:((k:Nat):Int)>0:=by omega
     go_wp2_with fail
     go_roundw
     case rel=>exact⟨k+1,by omega,by first|rfl|go_num,trivial⟩
     case measure=>show L.length-((k+1:Nat):Int).toNat<L.length-(k:Int).toNat;omega
    ·rw[if_neg hk0] at c1
     have k4:¬ ((k:Nat):Int)>0:=by omega
     go_wp2_with fail
     go_roundw
     case rel=>exact⟨k+1,by omega,by first|rfl|go_num,trivial⟩
     case measure=>show L.length-((k+1:Nat):Int).toNat<L.length-(k:Int).toNat;omega
   ·have k1:¬ ((k:Nat):Int)<L.length:=by omega
    have ca:=awake12_c wr (HT.out.below HQ.out.bel) (HM.out.below HQ.out.bel)
    go_wp2_with (go_at_call 8;(with_reducible refine ca.mono ?_);rintro e w9 ⟨rfl,hB9⟩;(have f9:=row_keepX HQ.out.res hB9);(have c9:=row_cellsX f9 0);(have z9:=row_thawX f9 0);simp only[List.getElem?_toArray,List.getElem?_cons_zero] at c9;(have HB9:=hid (HQ.out.bel.trans (hB9.mono HQ.out.bel.size)));(have HS9:=hid (heap_setX (c:=[.bool false]) f9 0 (.bool true)));(have HM9:Hid (Marks w.heap.size (w9.setCell ⟨w.heap.size,0,none⟩ (.bool true)) ds):=hid (Marks.kept (λk _ hk=>by (refine z6z _ _ _ _ ?_;rintro rfl;rw[f9] at hk;cases hk)) ds (Marks.kept (λk _ hk=>hB9.block k (z1z.1 hk).1) ds HMk.out)));clear hB9 f9 ca)
    refine marks_leave ds _ HM9.out (λw' hu=>?_)
    have hc:w'.heap[w.heap.size]? = some (.cells #[.bool true] 4 (0,0)):=(hu.block w.heap.size (z1z.1 HS9.out).1 (by rintro⟨_,e⟩;rw[HS9.out] at e;cases e)).trans HS9.out
    refine⟨.bool true,bool_ret results5 _ _ w.heap.size (.bool true) (by simp) (row_cellsX hc 0),rfl,?_⟩
    have hb10:=HB9.out.setCell (p:=⟨w.heap.size,0,none⟩) (z0z _) (.bool true)
    exact hb10.trans (hu.below hb10.size (λk e=>e.1))
 have j3:((i:Nat):Int)<L.length:=by omega
 have j4:z2z.wrap ((i:Int)+1)=((i+1:Nat):Int):=by rw[z3z];omega
 obtain⟨A,n,ks,R,hrow,hA,hkl⟩:=row_kl f 0 i (by rw[HLr.out];exact hlt)
 rw[HLr.out] at hrow
 rw[z14z] at hkl
 have hlen:i+1+(rowF ks).length+R.length=L.length:=by rw[<- hA,hrow];simp;omega
 have hat:L[i]? = some (n,ks.len):=by rw[hrow,<- hA,z10z (z0z _)];simp
 have HA:=hid hA
 have HRow:=hid hrow
 have HKl:=hid hkl
 have HAt:=hid hat
 clear hA hrow hkl hat hM
 go_upto_region 12 with fail
 have b2:Below wr.heap.size wr ((wr.alloc (.cells #[.int .i64 0] 3)).alloc (.cells #[.int .i64 (i:Nat)] 3)):=((z4z _ wr).alloc (z0z _) _).alloc (by simp) _
 have n2:=(Below.heap_alloc (wr.alloc (.cells #[.int .i64 0] 3)) (.cells #[.int .i64 (i:Nat)] 3) wr.heap.size (by simp)).trans (z5z wr (.cells #[.int .i64 0] 3))
 have l2:=z5z (wr.alloc (.cells #[.int .i64 0] 3)) (.cells #[.int .i64 (i:Nat)] 3)
 rw[World.size_alloc] at l2
 have q2:=q.below b2
 have m2:Marks w.heap.size ((wr.alloc (.cells #[.int .i64 0] 3)).alloc (.cells #[.int .i64 (i:Nat)] 3)) ds:=Marks.kept (λk _ hk=>b2.block k (z1z.1 hk).1) ds HMk.out
 have sz2:((wr.alloc (.cells #[.int .i64 0] 3)).alloc (.cells #[.int .i64 (i:Nat)] 3)).heap.size=wr.heap.size+2:=by simp
 have ord2:=q.lt
 generalize z12z (z12z wr _) _=W2 at *
 generalize wr.heap.size=nb at *
 have cl2:W2.cell? ⟨lb,0,none⟩=some (.slice (some ⟨gl,0,none⟩) L.length lc):=row_cellsX q2.lbox 0
 have ck:=kidsF_c W2 gl lc L q2.lrow q2.lt.2.2.1 HK.out A n ks R HRow.out
 rw[HA.out] at ck
 have hplen:(plF ks (i+1)).length=ks.len:=plF_len ks (i+1)
 have HP:Hid (∀k ∈ plF ks (i+1),i+1<=k/\k<L.length):=hid (λk hk=>by have:=plF_in ks _ k hk;omega)
 have HRi:=hid (plF_rise ks (i+1))
 have hksl:=len_rowF ks
 generalize plF ks (i+1)=pl at *
 have HQ2:=hid q2
 have HN2:=hid n2
 have HL2:=hid l2
 have HM2:=hid m2
 have HS2:=hid sz2
 clear cl q q2 n2 l2 m2 b2 HQ HMk sz2
 go_wp2_with (go_at_call 11;(with_reducible refine ck.mono ?_);rintro e W4 ⟨sb,kv,rfl,hB4,hbox,hkr,hlo,hsb,hkb⟩;clear ck)
 have q4:=HQ2.out.below hB4
 have n4:=row_keepX HN2.out hB4
 have l4:=row_keepX HL2.out hB4
 have m4:Marks w.heap.size W4 ds:=Marks.kept (λk _ hk=>hB4.block k (z1z.1 hk).1) ds HM2.out
 rw[HS2.out] at hkr hlo
 have k0:Kj w W4 lb mb xb gl lc nb (nb+2) sb kv L f i pl 0 (λk=>k=mb\/k=nb\/k=nb+1) W4:=
  ⟨by simpa using q4,n4,l4,λk=>Iff.rfl,hbox,hkr,hkb,⟨ord2.2.1,ord2.2.2.2.2,ord2.2.2.2.1,ord2.2.2.1,ord2.1⟩,rfl,hlo,hsb,z0z _,λk hk=>hk⟩
 have hbl:pl.length<=2000000:=by omega
 have HK0:=hid k0
 have HM4:=hid m4
 clear q4 n4 l4 m4 k0 hbox hkr hB4 HQ2 HN2 HL2 HM2 HS2 cl2 hkb
 refine iterD_law (kids_iter sb (nb+2) kv pl hbl) eg_kids rfl (Kj w W4 lb mb xb gl lc nb (nb+2) sb kv L f i pl) (λ_ _=>False) ?hL ?hI ?hIx _ HK0.out ?A ?hsz ?assign ?body ?done ?stop
 case assign=>
  intro L' j hj W K hK
  rw[kidV_at]
  simp only[zip_one,List.setIfInBounds_toArray,List.set_cons_succ,List.set_cons_zero]
  gi_wp2_with (simp only[Oper.semAt];go_simp)
  exact hK
 case hL=>
  intro j D W h
  refine⟨⟨row_cellsX h.box 0,h.kr⟩,λk hk=>?_⟩
  have:=h.o1
  have:=h.o2
  have:=h.o3
  have:=h.lt
  have:=h.sz
  rcases(h.dd k).1 hk with rfl|rfl|rfl <;> omega
 case hI=>intro j D W W' h hu;exact h.upd hu
 case hIx=>intro c W W' h;exact h.elim
 case hsz=>intro j hj;rw[kidV_at];rfl
 case stop=>intro c W h;exact h.elim
 case done=>
  intro D W h hD
  rw[kidV_len] at h
  have hM9:Marks w.heap.size W ({ target:=.collected W4.heap.size,args:=#[] }::ds):=by
   refine⟨⟨_,rfl,by omega,hD,?_⟩,Marks.kept (λk _ hk=>(h.keep k hk).trans hk.symm) ds HM4.out⟩
   intro d hd e
   obtain⟨r,h1,h2⟩:=Marks.lt' ds HM4.out d hd
   rw[h1] at e
   injection e with e1 _
   injection e1 with e1
   omega
  have hq:Kq w W lb mb xb gl lc L (metK f (i+1)):=by
   have e:(λk=>metK f i k+(pl.take pl.length).count k)=metK f (i+1):=by
    funext k
    rw[z19z (z0z _),metK_succ f i k pl HKl.out]
   rw[<- e]
   exact h.q
  have c0:W.cell? ⟨nb,0,none⟩=some (.int .i64 (pl.length:Nat)):=row_cellsX h.nbx 0
  have c1:W.cell? ⟨lb,0,none⟩=some (.slice (some ⟨gl,0,none⟩) L.length lc):=row_cellsX hq.lbox 0
  obtain⟨-,-,c2,-,-,-⟩:=nr_cells hq.lrow i _ HAt.out
  simp only at c2
  rw[<- hplen] at c2
  have H9:=hid (And.intro hM9 hq)
  have inst:Nonempty (BW W):=⟨⟨_,z4z _ _⟩⟩
  have f0:=BW.cell c0
  have f1:=BW.cell c1
  have f2:=BW.cell c2
  clear hM9 hq h HK0 hD c0 c1 c2
  go_upto_region 19 with fail
  refine wp_region_quiet_below (by kernel_rfl) (by kernel_rfl) ?_
  repeat (go_big_quiet_step (fail))
  refine wpQuiet_nil ?_
  intro _ hw'
  obtain⟨pw,hw''⟩:=hw'
  subst hw''
  clear f0 f1 f2 inst
  go_wp2
  obtain⟨hM9,hq⟩:=H9.out
  refine⟨⟨⟨rfl,rfl,rfl,rfl⟩,Marks.kept (λk _ hk=>pw.h.block k (z1z.1 hk).1) _ hM9,i+1,rfl,by omega,hq.below pw.h⟩,?_⟩
  show L.length-((i+1:Nat):Int).toNat<L.length-(i:Int).toNat
  omega
 case body=>
  intro L' j hj D W hLe h hs hlp
  subst hLe
  rw[kidV_len] at hj
  have hmem:pl.getD j 0 ∈ pl:=by
   rw[z16z,z11z hj]
   exact List.getElem_mem _
  obtain⟨hk1,hk2⟩:=HP.out _ hmem
  obtain⟨lv,hlv⟩:∃lv,lv=(if j=0 then i else pl.getD (j-1) 0):=⟨_,rfl⟩
  have hlk:lv<pl.getD j 0:=by
   rw[hlv]
   split
   ·omega
   ·have:=HRi.out (j-1) (by omega)
    rw[show j-1+1=j by omega] at this
    exact this
  have hlst:=h.lst
  rw[<- hlv] at hlst
  have hcb:metK f i (pl.getD j 0)+(pl.take j).count (pl.getD j 0)<=1000000:=by
   have h1:=metK_le f i (pl.getD j 0)
   have h2:(pl.take j).count (pl.getD j 0)<=(pl.take j).length:=List.count_le_length
   rw[List.length_take] at h2
   omega
  have ecnt:(λx=>(metK f i x+(pl.take j).count x)+if x=pl.getD j 0 then 1 else 0)=λx=>metK f i x+(pl.take (j+1)).count x:=by
   funext x
   rw[take_cnt pl j x hj]
   omega
  have hqm:=h.q.met (pl.getD j 0) hk2
  have cm:=row_cellsX h.q.mrow (pl.getD j 0)
  rw[metV_at _ _ _ hk2] at cm
  have zm:=row_thawX h.q.mrow (pl.getD j 0)
  rw[ecnt] at hqm
  generalize hc:metK f i (pl.getD j 0)+(pl.take j).count (pl.getD j 0)=c at *
  generalize hk:pl.getD j 0=k at *
  rw[show ((c+1:Nat):Int)=(c:Int)+1 by omega] at hqm
  obtain⟨a1,a2,a3,a4,a5⟩:=h.o1
  have o3:=h.o3
  have olt:=h.lt
  have osz:=h.sz
  have f1:(W.setCell ⟨mb,k,none⟩ (.int .i64 ((c:Int)+1))).heap[nb+1]? = some (.cells #[.int .i64 (lv:Nat)] 3 (0,0)):=(z6z _ _ _ _ (by show nb+1≠mb;omega)).trans hlst
  have f2:=heap_setX (c:=[.int .i64 (lv:Nat)]) f1 0 (.int .i64 (k:Nat))
  have g1:(W.setCell ⟨mb,k,none⟩ (.int .i64 ((c:Int)+1))).heap[nb]? = some (.cells #[.int .i64 (j:Nat)] 3 (0,0)):=(z6z _ _ _ _ (by show nb≠mb;omega)).trans h.nbx
  have g2:((W.setCell ⟨mb,k,none⟩ (.int .i64 ((c:Int)+1))).setCell ⟨nb+1,0,none⟩ (.int .i64 (k:Nat))).heap[nb]? = some (.cells #[.int .i64 (j:Nat)] 3 (0,0)):=(z6z _ _ _ _ (by show nb≠nb+1;omega)).trans g1
  have g3:=heap_setX (c:=[.int .i64 (j:Nat)]) g2 0 (.int .i64 ((j:Int)+1))
  have f3:(((W.setCell ⟨mb,k,none⟩ (.int .i64 ((c:Int)+1))).setCell ⟨nb+1,0,none⟩ (.int .i64 (k:Nat))).setCell ⟨nb,0,none⟩ (.int .i64 ((j:Int)+1))).heap[nb+1]? = some (.cells #[.int .i64 (k:Nat)] 3 (0,0)):=(z6z _ _ _ _ (by show nb+1≠nb;omega)).trans f2
  have hU:It.Upd (λx=>x=mb\/x=nb\/x=nb+1) W (((W.setCell ⟨mb,k,none⟩ (.int .i64 ((c:Int)+1))).setCell ⟨nb+1,0,none⟩ (.int .i64 (k:Nat))).setCell ⟨nb,0,none⟩ (.int .i64 ((j:Int)+1))):=(((It.Upd.refl (λx=>x=mb\/x=nb\/x=nb+1) W).setCell (p:=⟨mb,k,none⟩) (.inl (.inl rfl)) _).setCell (p:=⟨nb+1,0,none⟩) (.inl (.inr (.inr rfl))) _).setCell (p:=⟨nb,0,none⟩) (.inl (.inr (.inl rfl))) _
  have hqn:Kq w (((W.setCell ⟨mb,k,none⟩ (.int .i64 ((c:Int)+1))).setCell ⟨nb+1,0,none⟩ (.int .i64 (k:Nat))).setCell ⟨nb,0,none⟩ (.int .i64 ((j:Int)+1))) lb mb xb gl lc L (λx=>metK f i x+(pl.take (j+1)).count x):=
   hqm.keep (((It.Upd.refl (λx=>x=nb\/x=nb+1) _).setCell (p:=⟨nb+1,0,none⟩) (.inl (.inr rfl)) _).setCell (p:=⟨nb,0,none⟩) (.inl (.inl rfl)) _) (λx e=>by rcases e with rfl|rfl <;> exact⟨by omega,by omega,by omega,by omega,by omega⟩)
  have fin:Hid (rndWayD (W4.heap.size+1) W4.heap.size D W (λW'=>∃D',Kj w W4 lb mb xb gl lc nb (nb+2) sb kv L f i pl (j+1) D' W') (λ_ _=>False) .normal { tmps:=#[],defers:=[] } (((W.setCell ⟨mb,k,none⟩ (.int .i64 ((c:Int)+1))).setCell ⟨nb+1,0,none⟩ (.int .i64 (k:Nat))).setCell ⟨nb,0,none⟩ (.int .i64 ((j:Int)+1)))):=by
   refine⟨⟨hU.block _ (by omega) (by omega),hU.block _ (by omega) (by omega)⟩,λx hx1 hx2=>hU.block x hx1 (λe=>hx2 ((h.dd x).2 e)),D,?_⟩
   refine⟨hqn,by rw[show ((j+1:Nat):Int)=(j:Int)+1 by omega];exact g3,?_,h.dd,(hU.block _ (by omega) (by omega)).trans h.box,owns_onX h.kr (λx e=>hU.block x (by have:=h.kb x e;omega) (by have:=(h.kr.lt x e).1;omega)),h.kb,h.o1,h.o2,h.o3,h.lt,Nat.le_trans h.sz hU.size,λx hx=>(hU.block x (z1z.1 (h.keep x hx)).1 ?_).trans (h.keep x hx)⟩
   ·rw[if_neg (by omega),show j+1-1=j by omega,hk]
    exact f3
   ·rintro(e|e|e)
    ·have:=h.keep x hx
     rw[e,h.q.mrow] at this;cases this
    ·have:=h.keep x hx
     rw[e,h.nbx] at this;cases this
    ·have:=h.keep x hx
     rw[e,h.lst] at this;cases this
  have cl:W.cell? ⟨lb,0,none⟩=some (.slice (some ⟨gl,0,none⟩) L.length lc):=row_cellsX h.q.lbox 0
  have cx:W.cell? ⟨xb,0,none⟩=some (.slice (some ⟨mb,0,none⟩) L.length L.length):=row_cellsX h.q.mbox 0
  have cw:W.cell? ⟨nb+1,0,none⟩=some (.int .i64 (lv:Nat)):=row_cellsX hlst 0
  have d1:(W.setCell ⟨mb,k,none⟩ (.int .i64 ((c:Int)+1))).cell? ⟨nb+1,0,none⟩=some (.int .i64 (lv:Nat)):=row_cellsX f1 0
  have z1:=row_thawX f1 0
  have d2:((W.setCell ⟨mb,k,none⟩ (.int .i64 ((c:Int)+1))).setCell ⟨nb+1,0,none⟩ (.int .i64 (k:Nat))).cell? ⟨nb,0,none⟩=some (.int .i64 (j:Nat)):=row_cellsX g2 0
  have z2:=row_thawX g2 0
  have e1:¬ ((k:Nat):Int)<=(lv:Nat):=by omega
  have e2:¬ ((k:Nat):Int)≥L.length:=by omega
  have e3:(0:Int)<=(k:Nat):=by omega
  have e4:((k:Nat):Int)<L.length:=by omega
  have e5:z2z.wrap ((c:Int)+1)=(c:Int)+1:=by rw[z3z];omega
  have e6:z2z.wrap ((j:Int)+1)=(j:Int)+1:=by rw[z3z];omega
  clear hlst hqm hqn hU f1 f2 f3 g1 g2 g3 h hmem hk1 hk2 hlv hlk hcb ecnt hc hk
  gi_wp2_with (simp only[Oper.semAt];go_simp)
  exact fin.out
end Go.Proofs.YteffljnjmcjdfaaGreatDoor.W.Tr
namespace Go.Proofs.YteffljnjmcjdfaaGreatDoor.W
set_option linter.unusedVariables false
open Go.ChangeShapes Go.WideShapes Go.RowKit Go.Shelf
theorem treeKids_walk(src:ByteArray)(w0:src.size<=maxLen)(w:World)(ht:Tabs w)(hm:MarksIn w):Calls prog 5 #[.string src] w λe w'=>e=.returned (.bool true)/\Below w.heap.size w w':=by
 by_cases h:6000<src.size
 ·exact Tr.kids_long src h w
 obtain⟨r,hr⟩:=Tr.ends src.data.toList
 cases r with
 | error f=>exact Tr.kids_bad src h f hr w ht hm
 | ok p=>
  obtain⟨f,s'⟩:=p
  exact Tr.kids_good src h f s' hr w ht hm
end Go.Proofs.YteffljnjmcjdfaaGreatDoor.W

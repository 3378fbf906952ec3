import Derived.Test.YtjplieobnknnpaaGreatDoorJG
import Derived.Test.YtjplieobnknnpaaGreatDoorKM
import Derived.Maps.AppendAt
import Derived.Lib.AppendZeros
open List renaming getElem?_eq_getElem → z6z, replicate → z9z, reverse_cons → z12z, getElem?_eq_some_iff → z13z
open Array renaming getElem?_eq_some_iff → z11z
open Nat renaming le_refl → z0z, lt_irrefl → z7z
open Go.World renaming cell?_alloc_new → z5z
open Go.RowKit.Below renaming refl → z1z, heap_setCell → z10z
open Option renaming map_some → z8z
open Go.IntKind renaming i64 → z3z, wrap_i64 → z4z
open And renaming intro → z2z
open Go.Proofs.Tryz
open List renaming getElem_toArray → zx1, getElem_cons_zero → zx2, getElem_cons_succ → zx3, setIfInBounds_toArray → zx4, set_cons_zero → zx5, set_cons_succ → zx6
set_option maxRecDepth 1000000
set_option maxHeartbeats 8000000
namespace Go.Proofs.YtjplieobnknnpaaGreatDoor.W.Tr
open Go.ChangeShapes Go.WideShapes Go.RowKit Go.Shelf Go.ChangeMaps Ck
set_option linter.unusedVariables false
set_option linter.unusedSimpArgs false
theorem zM:(prog.info? 3).map (λi=>(i.zero,i.size,i.bytes))=some (some (.int .i64 0),1,8):=by kernel_rfl
theorem AAC:prog.underlying 39=some (.slice 3):=by kernel_rfl
theorem PO{t:TypeId}{z:Option Value}{s b:Nat}(h:(prog.info? t).map (λi=>(i.zero,i.size,i.bytes))=some (z,s,b)):∃i,prog.info? t=some i/\i.zero=z/\i.size=s/\i.bytes=b:=by
 cases hi:prog.info? t with
 | none=>rw[hi] at h;cases h
 | some i=>
  rw[hi] at h
  simp only[z8z,Option.some.injEq,Prod.mk.injEq] at h
  exact⟨i,rfl,h.1,h.2.1,h.2.2⟩
def KO(n:Nat):Value:=.int .i64 (n:Nat)
theorem ABP(v:Value)(n:Nat):(madeCells #[v] n).toList=z9z n v:=by
 apply List.ext_getElem?
 intro i
 by_cases hi:i<n
 ·rw[List.getElem?_replicate,if_pos hi]
  simp[madeCells,hi,Nat.mod_one]
 ·rw[List.getElem?_replicate,if_neg hi]
  simp[madeCells,hi]
theorem sP(w:World)(n:Nat)(hn:n<=1048576):∃w',(Instr.makeSlice 39 (.int .i64 (n:Int)) (.int .i64 (n:Int))).run prog w=.ok (.slice (some ⟨w.heap.size,0,none⟩) n n) w'/\(∃xs:List Nat,xs.length=n/\w'.heap[w.heap.size]? = some (.cells (xs.map KO).toArray 3 (0,0)))/\Below w.heap.size w w':=by
 obtain⟨i0,hi,hz0,hz1,hz2⟩:=PO zM
 obtain⟨w',h1,h2,h3⟩:=run_makeSlice_full (P:=prog) w w.heap.size 39 3 i0 (.int .i64 0) 1 AAC hi hz0 hz1 .i64 .i64 n (by omega) (by rw[hz2];omega) (by simp[maxLen];omega) (z0z _)
 refine⟨w',h1,⟨z9z n 0,by simp,?_⟩,((It.AL.refl (λ_=>False) w).grown h3 (λk e=>by cases e)).below (z0z _) (λk h=>h.elim)⟩
 rcases h2.2 with⟨e,_⟩|⟨g,cap,cur,e,g2,g3,g4,g5,g6,g7⟩
 ·cases e
 ·simp only[Value.slice.injEq,Option.some.injEq,Addr.mk.injEq,true_and,and_true] at e
  obtain⟨rfl,rfl⟩:=e
  rw[g3]
  have e1:cur.toList=(z9z n 0).map KO:=by
   have:cur.toList.take (n*1)=cur.toList:=List.take_of_length_le (by simp[g6])
   rw[<- this,g7,Nat.mul_one,List.map_replicate]
   exact ABP _ n
  rw[<- e1]
theorem iE:(prog.underlying 41).map (λd=>match d with | .struct _ | .array _ _=>true|_=>false)=some true:=by kernel_rfl
theorem AAp:(prog.info? 41).map (·.size)=some 2:=by kernel_rfl
theorem lS{fn:Func}{p:Tmp}(h:fn.results = #[.cell p 41])(tmps:Array Value)(w:World)(gb:Nat)(v0 v1:Value)(fr:Nat × Nat)(hp:tmps.getD p undef=.pointer (some ⟨gb,0,none⟩))(hg:w.heap[gb]? = some (.cells #[v0,v1] 41 fr)):(results fn tmps).run prog w=.ok (.agg #[v0,v1]) w:=by
 have ht:=iE
 cases hu:prog.underlying 41 with
 | none=>rw[hu] at ht;cases ht
 | some d=>
  rw[hu] at ht
  simp only[z8z,Option.some.injEq] at ht
  refine results_cell_row h tmps w gb _ _ fr d hp hg hu ?_ (by rw[AAp];rfl)
  cases d <;> first|rfl|exact ht
theorem Gy.few{L:List (Nd × Nat)}{E:List Nat}(h:Gy L E){a:Nat}{p:Nd × Nat}(hp:L[a]? = some p):∀k,k<=p.2->∃x,hop E (a+1) k=some x/\a+k<x
 | 0,_=>⟨a+1,rfl,by omega⟩
 | k+1,hk=>by
  obtain⟨x,h1,h2⟩:=Gy.few h hp k (by omega)
  obtain⟨x',g1,g2,g3,_⟩:=h.kid a p hp k (by omega)
  rw[h1] at g1
  obtain rfl:=Option.some.inj g1
  have hx:=g3 (by omega)
  obtain⟨y,y1,y2,_⟩:=h.fin (z6z hx)
  exact⟨y,by rw[MS,h1];exact y1,by omega⟩
theorem dM(w:World)(gl lc:Nat)(L:List (Nd × Nat))(E:List Nat)(hN:Cw w (.slice (some ⟨gl,0,none⟩) L.length lc) L)(hok:Gy L E) :
  Calls prog 15 #[.slice (some ⟨gl,0,none⟩) L.length lc] w λe w'=>∃ge,e=.returned (.agg #[.slice (some ⟨gl,0,none⟩) L.length lc,.slice (some ⟨ge,0,none⟩) E.length L.length])/\Below w.heap.size w w'/\Jo w' (.slice (some ⟨ge,0,none⟩) E.length L.length) E/\w.heap.size<=ge:=by
 have hLl:L.length<=1000000:=by obtain⟨_,_,_,_,h,_⟩:=hN;exact h
 have hgl:gl<w.heap.size:=by
  obtain⟨g,cap,e,h,_⟩:=hN
  simp only[Value.slice.injEq,Option.some.injEq,Addr.mk.injEq,true_and,and_true] at e
  rw[e.1]
  exact h
 have hEl:=hok.len
 have b0:Below w.heap.size w (w.alloc (.cells #[.slice none 0 0,.slice none 0 0] 41)):=(z1z _ w).alloc (z0z _) _
 obtain⟨W1,hrun,⟨xs,hxl,hblk⟩,hB1⟩:=sP (w.alloc (.cells #[.slice none 0 0,.slice none 0 0] 41)) L.length (by omega)
 have hrb:W1.heap[w.heap.size]? = some (.cells #[.slice none 0 0,.slice none 0 0] 41 (0,0)):=(hB1.block _ (by simp)).trans (World.alloc_heap_new w _)
 have hbw1:Below w.heap.size w W1:=b0.trans (hB1.mono b0.size)
 have sz:(w.alloc (.cells #[.slice none 0 0,.slice none 0 0] 41)).heap.size=w.heap.size+1:=by simp
 rw[sz] at hrun hblk
 have HN:=hid hN
 have HK:=hid hok
 have HS:=hid (z2z hxl (z2z hblk (z2z hbw1 hrb)))
 have n1:z3z.wrap ((L.length:Int)-1)=(L.length:Int)-1:=by rw[z4z];omega
 have n2:wrap64 ((L.length:Int)-1)=(L.length:Int)-1:=by unfold wrap64;omega
 clear hN hok hxl hblk hbw1 hrb b0 hB1
 go_enter func15,ntmps15
 go_upto_region 3 with fail
 clear sz hrun
 generalize hrb:w.heap.size=rb at *
 go_loopw [4] (λat' wr=>∃ (i:Int) (ys:List Nat),-1<=i/\i<L.length/\at'=.int .i64 i/\ys.length=L.length/\(∀k:Nat,i<k->ys[k]? = E[k]?)/\wr.heap[rb+1]? = some (.cells (ys.map KO).toArray 3 (0,0))/\Below rb w wr/\wr.heap[rb]? = some (.cells #[.slice none 0 0,.slice none 0 0] 41 (0,0))) (λat' _=>(intOf at'+1).toNat)
 case atStart=>
  obtain⟨q1,q2,q3,q4⟩:=HS.out
  exact⟨(L.length:Int)-1,xs,by omega,by omega,rfl,q1,λk hk=>by rw[List.getElem?_eq_none (by omega),List.getElem?_eq_none (by omega)],q2,q3,q4⟩
 case round=>
  obtain⟨i,ys,hi1,hi2,rfl,hyl,hys,hblk,hB,hbox⟩:=hrel
  clear HS n1 n2
  by_cases hi0:i<0
  case pos=>
   have b0:¬i≥0:=by omega
   have H:=hid (z2z hys (z2z hblk hB))
   have y0:=AU hbox 0
   have y1:=AU hbox 1
   change _=some (Value.slice none 0 0) at y0
   change _=some (Value.slice none 0 0) at y1
   have z0:=thaw hbox 0
   have z1:=thaw hbox 1
   have hset:=Io (c:=[_,Value.slice none 0 0]) (Io (c:=[.slice none 0 0,.slice none 0 0]) hbox 0 (.slice (some ⟨gl,0,none⟩) L.length lc)) 1 (.slice (some ⟨rb+1,0,none⟩) L.length L.length)
   have HX:=hid hset
   clear hys hblk hB hset
   go_wp2
   refine bodyPost_ret (lS rfl _ _ rb _ _ _ rfl HX.out) rfl ?_
   obtain⟨q1,q2,q3⟩:=H.out
   have hy:ys=E:=List.ext_getElem? λk=>q1 k (by omega)
   subst hy
   have hB2:Below rb w ((wr.setCell ⟨rb,0,none⟩ (.slice (some ⟨gl,0,none⟩) L.length lc)).setCell ⟨rb,1,none⟩ (.slice (some ⟨rb+1,0,none⟩) L.length L.length)):=(q3.setCell (p:=⟨rb,0,none⟩) (z0z _) _).setCell (p:=⟨rb,1,none⟩) (z0z _) _
   have hblk2:((wr.setCell ⟨rb,0,none⟩ (.slice (some ⟨gl,0,none⟩) L.length lc)).setCell ⟨rb,1,none⟩ (.slice (some ⟨rb+1,0,none⟩) L.length L.length)).heap[rb+1]? = some (.cells (ys.map KO).toArray 3 (0,0)):=((z10z _ _ _ _ (by show rb+1≠rb;omega)).trans (z10z _ _ _ _ (by show rb+1≠rb;omega))).trans q2
   refine⟨rb+1,rfl,hB2,⟨rb+1,L.length,by rw[hEl],(z11z.1 hblk2).1,λk x hx=>?_⟩,by omega⟩
   rw[AU hblk2 k]
   simp[hx,KO]
  case neg=>
   obtain⟨m,rfl⟩:∃m:Nat,i=(m:Int):=⟨i.toNat,by omega⟩
   have hml:m<L.length:=by omega
   have hp:L[m]? = some L[m]:=z6z hml
   have hN2:Cw wr (.slice (some ⟨gl,0,none⟩) L.length lc) L:=by
    obtain⟨g,cap,e,h1,h2,h3⟩:=HN.out
    simp only[Value.slice.injEq,Option.some.injEq,Addr.mk.injEq,true_and,and_true] at e
    obtain⟨rfl,rfl⟩:=e
    exact⟨gl,lc,rfl,by have:=hB.size;omega,h2,λk p hp j hj=>(hB.cell (p:=⟨gl,_,none⟩) hgl).trans (h3 k p hp j hj)⟩
   obtain⟨-,-,c2,-⟩:=hN2.at hp
   have hkid:=HK.out.kid m L[m] hp
   obtain⟨pn,hpn⟩:∃pn,L[m]=pn:=⟨_,rfl⟩
   rw[hpn] at hp c2 hkid
   obtain⟨nn,kd⟩:=pn
   clear hpn
   simp only at c2 hkid
   have b0:((m:Nat):Int)≥0:=by omega
   have b1:((m:Nat):Int)<L.length:=by omega
   have o1:z3z.wrap ((m:Int)+1)=((m+1:Nat):Int):=by rw[z4z];omega
   have o2:z3z.wrap ((m:Int)-1)=(m:Int)-1:=by rw[z4z];omega
   have o3:wrap64 ((m:Int)-1)=(m:Int)-1:=by unfold wrap64;omega
   have hkl:kd<=1000000:=by
    obtain⟨x,h0,h1,_,h3⟩:=hkid kd (z0z _)
    obtain⟨x',g1,g2⟩:=HK.out.few hp kd (z0z _)
    rw[h0] at g1
    obtain rfl:=Option.some.inj g1
    have:=(h3 rfl).2
    omega
   have H:=hid (z2z hys (z2z hblk (z2z hB hbox)))
   have HKD:=hid hkid
   clear hys hblk hB hbox hkid hN2 hp
   generalize wr=ws at *
   go_upto_region 7 with fail
   go_loopw [5,23] (λe' i' w9=>∃ (k x:Nat),k<=kd/\e'=.int .i64 (x:Nat)/\i'=.int .i64 (k:Nat)/\hop E (m+1) k=some x/\w9=ws) (λ_ i' _=>kd-(intOf i').toNat)
   case atStart=>exact⟨0,m+1,Nat.zero_le _,rfl,rfl,rfl,rfl⟩
   case round=>
    obtain⟨k,x,hk,rfl,rfl,hh,hwe⟩:=hrel
    subst hwe
    by_cases hlt:k<kd
    case pos=>
     obtain⟨x',h1,h2,h3,_⟩:=HKD.out k hk
     rw[hh] at h1
     obtain rfl:=Option.some.inj h1
     have hxl:=h3 hlt
     obtain⟨q1,q2,q3,q4⟩:=H.out
     have hyx:ys[x]? = E[x]?:=q1 x (by omega)
     obtain⟨v,hv⟩:∃v,E[x]? = some v:=⟨_,z6z (by omega)⟩
     have ce:wr.cell? ⟨rb+1,x,none⟩=some (.int .i64 (v:Nat)):=by
      rw[AU q2 x]
      simp[hyx,hv,KO]
     have hh2:hop E (m+1) (k+1)=some v:=by rw[MS,hh];exact hv
     have d0:((k:Nat):Int)<kd:=by omega
     have d1:(0:Int)<=(x:Nat):=by omega
     have d2:((x:Nat):Int)<L.length:=by omega
     have d3:z3z.wrap ((k:Int)+1)=((k+1:Nat):Int):=by rw[z4z];omega
     have HH:=hid hh2
     clear q1 q2 q3 q4 hyx hv hh hh2 h1 h2 h3
     go_wp2
     go_roundw
     case rel=>exact⟨k+1,v,by omega,by first|rfl|go_num,by first|rfl|go_num,HH.out,by first|rfl|trivial⟩
     case measure=>show kd-((k+1:Nat):Int).toNat<kd-(k:Int).toNat;omega
    case neg=>
     have e:k=kd:=by omega
     subst e
     have d0:¬ ((k:Nat):Int)<k:=by omega
     obtain⟨x',h1,h2,h3,h4⟩:=HKD.out k hk
     rw[hh] at h1
     obtain rfl:=Option.some.inj h1
     obtain⟨q1,q2,q3,q4⟩:=H.out
     have ce:=AU q2 m
     obtain⟨u0,hu0⟩:∃u0,ys[m]? = some u0:=⟨_,z6z (by omega)⟩
     simp only[List.getElem?_toArray,List.getElem?_map,hu0,z8z] at ce
     have ze:=thaw q2 m
     have n1:=Io q2 m (.int .i64 (x:Nat))
     have n2:(ys.map KO).set m (.int .i64 (x:Nat))=(ys.set m x).map KO:=by rw[List.map_set];rfl
     rw[n2] at n1
     have n3:=q3.setCell (p:=⟨rb+1,m,none⟩) (by show rb<=rb+1;omega) (.int .i64 (x:Nat))
     have n4:=(z10z wr ⟨rb+1,m,none⟩ (.int .i64 (x:Nat)) rb (by show rb≠rb+1;omega)).trans q4
     have n5:∀k:Nat,(m:Int)-1<k->(ys.set m x)[k]? = E[k]?:=λk hk=>by
      by_cases e:m=k
      ·subst e
       rw[List.getElem?_set_self (by omega),(h4 rfl).1]
      ·rw[List.getElem?_set_ne e]
       exact q1 k (by omega)
     have G:=hid (z2z n5 (z2z n1 (z2z n3 n4)))
     clear q1 q2 q3 q4 n1 n2 n3 n4 n5 hh h1 h2 h3 h4 hu0 H HKD
     go_wp2
     go_roundw
     case rel=>
      obtain⟨q1,q2,q3,q4⟩:=G.out
      exact⟨(m:Int)-1,ys.set m x,by omega,by omega,by first|rfl|go_num,by simpa using hyl,q1,q2,q3,q4⟩
     case measure=>show ((m:Int)-1+1).toNat<((m:Int)+1).toNat;omega
theorem rW:(prog.info? 134).map (λi=>(i.zero,i.size,i.bytes))=some (some (.agg #[.int .i64 0,.int .i64 0,.int .i64 0]),3,24):=by kernel_rfl
theorem ABS:prog.underlying 88=some (.slice 134):=by kernel_rfl
theorem uf:(prog.info? 83).map (λi=>(i.zero,i.size,i.bytes))=some (some (.map none),1,8):=by kernel_rfl
theorem ABN:prog.underlying 86=some (.slice 83):=by kernel_rfl
theorem ABQ:(prog.info? 9).map (λi=>(i.zero,i.size,i.bytes))=some (some (.string ⟨#[]⟩),1,16):=by kernel_rfl
theorem qB:prog.underlying 89=some (.slice 9):=by kernel_rfl
theorem fK(W:World)(ty:TypeId)(v:Value)(n:Nat)(xs:List Value){B0:Nat}(hown:W.ownsRow B0 134 3 v n xs)(hB:B0<=W.heap.size)(a s l:Nat)(hn:n<=1000000):∃v' w',(Builtin.append_ #[88,88] ty #[v,.slice (some ⟨W.heap.size,0,none⟩) 1 1]).run prog (W.alloc (.cells #[.int .i64 (a:Nat),.int .i64 (s:Nat),.int .i64 (l:Nat)] 134))=.ok v' w'/\w'.ownsRow B0 134 3 v' (n+1) (xs++[.int .i64 (a:Nat),.int .i64 (s:Nat),.int .i64 (l:Nat)])/\(W.alloc (.cells #[.int .i64 (a:Nat),.int .i64 (s:Nat),.int .i64 (l:Nat)] 134)).grownBy w' v.ownBlock:=by
 obtain⟨i0,hi,hz0,hz1,hz2⟩:=PO rW
 have e0:=z5z W #[.int .i64 (a:Nat),.int .i64 (s:Nat),.int .i64 (l:Nat)] 134
 have ho:=hown.alloc (.cells #[.int .i64 (a:Nat),.int .i64 (s:Nat),.int .i64 (l:Nat)] 134)
 obtain⟨v',w',h1,h2,h3,_,h5⟩:=run_append_own_at (P:=prog) (W.alloc (.cells #[.int .i64 (a:Nat),.int .i64 (s:Nat),.int .i64 (l:Nat)] 134)) B0 88 ty 134 i0 _ 3 24 ABS hi hz0 hz1 hz2 rfl (by omega) v n xs ho ⟨W.heap.size,0,none⟩ 1 1 [.int .i64 (a:Nat),.int .i64 (s:Nat),.int .i64 (l:Nat)] (by simp) (by
  intro j u hj
  have e1:((⟨W.heap.size,0,none⟩:Addr).add j)=⟨W.heap.size,j,none⟩:=by simp[Addr.add];intro e;exact e.symm
  rw[e1,e0 j]
  simpa using hj) (by
  intro u hu
  simp at hu
  rcases hu with rfl|rfl|rfl <;> rfl) (by unfold maxLen;omega) (by omega) (by simp;omega)
 exact⟨v',w',h1,h2,h3⟩
theorem Qz(W:World)(ty:TypeId)(v:Value)(n:Nat)(xs:List Value){B0:Nat}(hown:W.ownsRow B0 83 1 v n xs)(hB:B0<=W.heap.size)(b:Nat)(hn:n<=1000000):∃v' w',(Builtin.append_ #[86,86] ty #[v,.slice (some ⟨W.heap.size,0,none⟩) 1 1]).run prog (W.alloc (.cells #[.map (some b)] 83))=.ok v' w'/\w'.ownsRow B0 83 1 v' (n+1) (xs++[.map (some b)])/\(W.alloc (.cells #[.map (some b)] 83)).grownBy w' v.ownBlock:=by
 obtain⟨i0,hi,hz0,hz1,hz2⟩:=PO uf
 have e0:=z5z W #[.map (some b)] 83
 have ho:=hown.alloc (.cells #[.map (some b)] 83)
 obtain⟨v',w',h1,h2,h3,_,h5⟩:=run_append_own_at (P:=prog) (W.alloc (.cells #[.map (some b)] 83)) B0 86 ty 83 i0 _ 1 8 ABN hi hz0 hz1 hz2 rfl (by omega) v n xs ho ⟨W.heap.size,0,none⟩ 1 1 [.map (some b)] (by simp) (by
  intro j u hj
  have e1:((⟨W.heap.size,0,none⟩:Addr).add j)=⟨W.heap.size,j,none⟩:=by simp[Addr.add];intro e;exact e.symm
  rw[e1,e0 j]
  simpa using hj) (by
  intro u hu
  simp at hu
  rcases hu with rfl
  rfl) (by unfold maxLen;omega) (by omega) (by simp;omega)
 exact⟨v',w',h1,h2,h3⟩
theorem Vm(W:World)(ty:TypeId)(v:Value)(n:Nat)(xs:List Value){B0:Nat}(hown:W.ownsRow B0 9 1 v n xs)(hB:B0<=W.heap.size)(x:ByteArray)(hn:n<=1000000):∃v' w',(Builtin.append_ #[89,89] ty #[v,.slice (some ⟨W.heap.size,0,none⟩) 1 1]).run prog (W.alloc (.cells #[.string x] 9))=.ok v' w'/\w'.ownsRow B0 9 1 v' (n+1) (xs++[.string x])/\(W.alloc (.cells #[.string x] 9)).grownBy w' v.ownBlock:=by
 obtain⟨i0,hi,hz0,hz1,hz2⟩:=PO ABQ
 have e0:=z5z W #[.string x] 9
 have ho:=hown.alloc (.cells #[.string x] 9)
 obtain⟨v',w',h1,h2,h3,_,h5⟩:=run_append_own_at (P:=prog) (W.alloc (.cells #[.string x] 9)) B0 89 ty 9 i0 _ 1 16 qB hi hz0 hz1 hz2 rfl (by omega) v n xs ho ⟨W.heap.size,0,none⟩ 1 1 [.string x] (by simp) (by
  intro j u hj
  have e1:((⟨W.heap.size,0,none⟩:Addr).add j)=⟨W.heap.size,j,none⟩:=by simp[Addr.add];intro e;exact e.symm
  rw[e1,e0 j]
  simpa using hj) (by
  intro u hu
  simp at hu
  rcases hu with rfl
  rfl) (by unfold maxLen;omega) (by omega) (by simp;omega)
 exact⟨v',w',h1,h2,h3⟩
section
variable {B:Nat} {w w1:World} {pb:Nat} {L:List (Nd × Nat)} {E:List Nat} {mr:Int} {pm:List (ByteArray × Nat)} {lv ev:Value} {mp mt mc:Nat} {ov sv pv:Value} {bs:List Nat} {c:Sc} {v':Value}
theorem RZ{w:World}{B:Nat}{t:TypeId}{k n:Nat}{v:Value}{xs:List Value}(h:w.ownsRow B t k v n xs){pb:Nat}{l:Array Value}{t':TypeId}(hp:w.heap[pb]? = some (.cells l t' (0,0)))(ht:t≠t'):v.ownBlock≠some pb:=by
 intro e
 obtain⟨_,cur,h3⟩:=Ba h e
 exact Da h3 hp (by simpa [DX] using ht) rfl
theorem Pz.pushO(h:Pz B w pb L E mr pm lv ev mp mt mc ov sv pv bs c){o:Nat × Nat × Nat}(hU:It.AL (λk=>ov.ownBlock=some k) w w1)(ho:w1.ownsRow B 134 3 v' (c.opn.length+1) (DZ c.opn.reverse++[.int .i64 (o.1:Nat),.int .i64 (o.2.1:Nat),.int .i64 (o.2.2:Nat)]))(hf:c.opn.length<100000):Pz B (w1.setCell ⟨pb,5,none⟩ v') pb L E mr pm lv ev mp mt mc v' sv pv bs { c with opn:=o::c.opn }:=by
 have blk1:=(hU.block pb h.lt h.ne5).trans h.pr.blk
 refine h.newO ((hU.mono λ_ e=>.inr e).setCell (p:=⟨pb,5,none⟩) (.inl (.inl rfl)) v') (Yq blk1 _) ?_ (by simp;omega)
 have e:DZ (o::c.opn).reverse=DZ c.opn.reverse++[.int .i64 (o.1:Nat),.int .i64 (o.2.1:Nat),.int .i64 (o.2.2:Nat)]:=by rw[z12z,Nl];simp[DZ]
 rw[e]
 exact Mi ho (RZ ho blk1 (by decide))
theorem Pz.pushL(h:Pz B w pb L E mr pm lv ev mp mt mc ov sv pv bs c){x:ByteArray}(hU:It.AL (λk=>pv.ownBlock=some k) w w1)(ho:w1.ownsRow B 9 1 v' (c.lps.length+1) (c.lps.reverse.map Value.string++[.string x]))(hf:c.lps.length<100000):Pz B (w1.setCell ⟨pb,7,none⟩ v') pb L E mr pm lv ev mp mt mc ov sv v' bs { c with lps:=x::c.lps }:=by
 have blk1:=(hU.block pb h.lt h.ne7).trans h.pr.blk
 refine h.newL ((hU.mono λ_ e=>.inr e).setCell (p:=⟨pb,7,none⟩) (.inl (.inl rfl)) v') (Ym blk1 _) ?_ (by simp;omega)
 have e:(x::c.lps).reverse.map Value.string=c.lps.reverse.map Value.string++[.string x]:=by simp
 have e2:(x::c.lps).reverse.length=c.lps.length+1:=by simp
 unfold GZ
 rw[e,e2]
 exact Mi ho (RZ ho blk1 (by decide))
theorem Pz.pushS(h:Pz B w pb L E mr pm lv ev mp mt mc ov sv pv bs c){b:Nat}{l:List (ByteArray × Nat)}(hU:It.AL (λk=>sv.ownBlock=some k) w w1)(ho:w1.ownsRow B 83 1 v' (c.scs.length+1) ((bs.reverse.map λb=>Value.map (some b))++[.map (some b)]))(hm:Bz w b l)(hb:B<=b)(hn:b ∉ mp::mt::mc::bs)(hf:c.scs.length<200000):Pz B (w1.setCell ⟨pb,6,none⟩ v') pb L E mr pm lv ev mp mt mc ov v' pv (b::bs) { c with scs:=l::c.scs }:=by
 have blk1:=(hU.block pb h.lt h.ne6).trans h.pr.blk
 have hUU:It.AL (λk=>k=pb\/sv.ownBlock=some k) w (w1.setCell ⟨pb,6,none⟩ v'):=(hU.mono λ_ e=>.inr e).setCell (p:=⟨pb,6,none⟩) (.inl (.inl rfl)) v'
 obtain⟨es,kk,hbo⟩:=hm.obj
 have hbk:(w1.setCell ⟨pb,6,none⟩ v').heap[b]? = w.heap[b]?:=by
  refine hUU.block b (z11z.1 hbo).1 ?_
  rintro(e|e)
  ·exact Da hbo h.pr.blk (by simp[DX]) e
  ·obtain⟨_,cur,h3⟩:=Ba h.pr.scs e
   exact Da hbo h3 (by simp[DX]) rfl
 have hbl:=h.pr.blen
 have nd:=h.nd
 refine h.newS hUU (dX blk1 _) ?_ (by simp[hbl]) (λi b' l' h1 h2=>?_) (λb' h1=>?_) ?_ (by simp;omega) (by simp)
 ·have e:((b::bs).reverse.map λb=>Value.map (some b))=(bs.reverse.map λb=>Value.map (some b))++[.map (some b)]:=by simp
  rw[e]
  exact Mi ho (RZ ho blk1 (by decide))
 ·cases i with
  | zero=>
   simp only[List.getElem?_cons_zero,Option.some.injEq] at h1 h2
   subst h1 h2
   exact .inr (hm.on hbk)
  | succ i=>
   simp only[List.getElem?_cons_succ] at h1 h2
   exact .inl ⟨i,h1,h2⟩
 ·rcases List.mem_cons.1 h1 with rfl|h1
  ·exact hb
  ·exact h.lows b' (by simp[h1])
 ·simp only[List.nodup_cons,List.mem_cons,not_or] at nd hn ⊢
  obtain⟨⟨n1,n2,n3⟩,⟨n4,n5⟩,n6,n7⟩:=nd
  obtain⟨m1,m2,m3,m4⟩:=hn
  exact⟨⟨n1,n2,λe=>m1 e.symm,n3⟩,⟨n4,λe=>m2 e.symm,n5⟩,⟨λe=>m3 e.symm,n6⟩,m4,n7⟩
end
section
variable {B:Nat} {w w':World} {pb:Nat} {L:List (Nd × Nat)} {E:List Nat} {mr:Int} {pm:List (ByteArray × Nat)} {lv ev:Value} {mp mt mc:Nat} {ov sv pv:Value} {bs:List Nat} {c:Sc}
theorem Pr.next(h:Pr w pb L E mr pm lv ev mp mt mc ov sv pv bs c B){o1 o:Nat × Nat × Nat}{r:List (Nat × Nat × Nat)}(ho:c.opn=o1::o::r):∃g cap,ov=.slice (some ⟨g,0,none⟩) (r.length+2) cap/\r.length+2<=cap/\g<w.heap.size/\w.cell? ⟨g,r.length*3,none⟩=some (.int .i64 (o.1:Nat)):=by
 have hl:c.opn.length=r.length+2:=by rw[ho];rfl
 rcases h.opn.2 with⟨_,e0⟩|⟨g,cap,cur,rfl,h2,h3,h4,h5,h6,h7⟩
 ·omega
 ·rw[hl] at h4
  refine⟨g,cap,by rw[hl],h4,(z11z.1 h3).1,?_⟩
  have e:DZ c.opn.reverse=DZ r.reverse++([.int .i64 (o.1:Nat),.int .i64 (o.2.1:Nat),.int .i64 (o.2.2:Nat)]++[.int .i64 (o1.1:Nat),.int .i64 (o1.2.1:Nat),.int .i64 (o1.2.2:Nat)]):=by
   rw[ho,z12z,z12z,Nl,Nl]
   simp[DZ]
  have el:(DZ r.reverse).length=r.length*3:=by rw[Qm];simp;omega
  have key:w.cell? ⟨g,r.length*3,none⟩=(DZ c.opn.reverse)[r.length*3]?:=by
   rw[cell_of_row _ g _ _ _ _ h3,<- h7,List.getElem?_take,if_pos (by omega),Array.getElem?_toList]
  rw[key,e,List.getElem?_append_right (by omega),el]
  simp
theorem vX(h:Pz B w pb L E mr pm lv ev mp mt mc ov sv pv bs c){o1 o:Nat × Nat × Nat}{r:List (Nat × Nat × Nat)}(ho:c.opn=o1::o::r){n:Nd}{kids:Nat}(hn:L[o.1]? = some (n,kids))(hf:c.scs.length<199999)(hk:n.kind≠11) :
  Calls prog 76 #[.pointer (some ⟨pb,0,none⟩)] w λe w'=>e=.returned (.tuple #[])/\Below B w w'/\A9 w w'/\∃sv' bs',Pz B w' pb L E mr pm lv ev mp mt mc ov sv' pv bs' { c with scs:=[]::c.scs }:=by
 obtain⟨g,cap,rfl,hc,hg,d0⟩:=h.pr.next ho
 have p5:=AU h.pr.blk 5
 change _=some (Value.slice (some ⟨g,0,none⟩) (r.length+2) cap) at p5
 have hrl:r.length<=100000:=by have:=h.pr.few;rw[ho] at this;simp at this;omega
 have o1':z3z.wrap (((r.length+2:Nat):Int)-2)=r.length:=by rw[z4z];omega
 have o2:(0:Int)<=r.length:=by omega
 have o3:(r.length:Int)<((r.length+2:Nat):Int):=by omega
 have o8:wrap64 ((r.length:Nat):Int)=r.length:=by unfold wrap64;omega
 have H:=hid h
 have HN:=hid hn
 have HF:=hid hf
 have hlt:=h.lt
 have hsz:=h.size
 have HK:=hid hk
 clear h ho hn hf hk
 generalize r.length=rl at *
 go_enter func76,ntmps76
 go_upto_region 1 with fail
 have f5:=BW.cell p5
 have f1:=BW.cell d0
 have inst:Nonempty (BW w):=⟨⟨_,z1z _ _⟩⟩
 clear p5 d0
 (refine Ji (by kernel_rfl) (by kernel_rfl) ?_);(repeat (go_big_quiet_step (fail)));(refine wpQuiet_nil ?_);intro _ hw';(obtain⟨pw,hw''⟩:=hw');subst hw''
 have b0:=pw.h
 have h4:=H.out.below b0
 have HB4:=hid (b0.mono hsz)
 have K4:=hid ((A9.refl w).more b0)
 clear f5 f1 inst o1' o2 o3 o8 H b0 hg hc hrl
 generalize pw.w'=W4 at *
 clear pw
 have H4:=hid h4
 have hn:=HN.out
 obtain⟨gl,lc,hlv,hgl,hLl,_⟩:=id h4.pr.row
 have hrow:=h4.pr.row
 rw[hlv] at hrow
 obtain⟨c0,c1,c2,c3,c4,c5⟩:=hrow.at hn
 simp only at c0 c1 c2 c3 c4 c5
 have p0:=AU h4.pr.blk 0
 change _=some lv at p0
 rw[hlv] at p0
 have hal:=(z13z.1 hn).1
 have m1:(0:Int)<=(o.1:Nat):=by omega
 have m2:((o.1:Nat):Int)<L.length:=by omega
 have bz:Below W4.heap.size W4 (W4.alloc (.cells #[.int .i64 0,.int .i64 0,.int .i64 0,.string ⟨#[]⟩,.int .i64 0,.int .u64 0] 48)):=(z1z _ W4).alloc (z0z _) _
 have d0:=(bz.cell (p:=⟨gl,o.1*6,none⟩) hgl).trans c0
 have d1:=(bz.cell (p:=⟨gl,o.1*6+1,none⟩) hgl).trans c1
 have d2:=(bz.cell (p:=⟨gl,o.1*6+2,none⟩) hgl).trans c2
 have d3:=(bz.cell (p:=⟨gl,o.1*6+3,none⟩) hgl).trans c3
 have d4:=(bz.cell (p:=⟨gl,o.1*6+4,none⟩) hgl).trans c4
 have d5:=(bz.cell (p:=⟨gl,o.1*6+5,none⟩) hgl).trans c5
 have q0:=(bz.cell (p:=⟨pb,0,none⟩) h4.lt).trans p0
 clear h4 hlv hgl hLl hrow hn hal bz
 generalize L.length=ln at *
 go_upto_region 2 with fail
 have b5:Below W4.heap.size W4 (W4.alloc (Ab n kids)):=(z1z _ W4).alloc (z0z _) _
 have nb:=z5z W4 #[.int .i64 n.kind,.int .i64 n.a,.int .i64 (kids:Nat),.string n.text,.int .i64 n.int,.int .u64 n.bits] 48
 have x0:(W4.alloc (Ab n kids)).cell? ⟨W4.heap.size,0,none⟩=some (.int .i64 n.kind):=nb 0
 have h5:=H4.out.below b5
 have B5:=hid (HB4.out.trans (b5.mono H4.out.size))
 have K5:=hid (K4.out.more b5)
 clear nb b5 d0 d1 d2 d3 d4 d5 q0 c0 c1 c2 c3 c4 c5 p0 m1 m2 H4 HB4 K4
 simp only[Ab] at *
 generalize World.alloc _ _=W5 at *
 generalize W4.heap.size=nbk at *
 have hk:=HK.out
 have b6:(n.kind==11)=false:=by simpa using hk
 have p6:=AU h5.pr.blk 6
 change _=some sv at p6
 have h6:=h5.below ((z1z _ W5).alloc (z0z _) (.map #[] 0))
 obtain⟨sv',w7,hr,hown,hgr⟩:=Qz (W5.alloc (.map #[] 0)) 86 sv c.scs.length _ h6.pr.scs h6.size W5.heap.size (by have:=HF.out;omega)
 obtain⟨oo,oc,rfl⟩:=Et hown
 have hU:It.AL (λk=>sv.ownBlock=some k) (W5.alloc (.map #[] 0)) w7:=((It.AL.refl _ _).alloc _).grown hgr (λk e=>.inl e)
 have blk7:=(hU.block pb h6.lt h6.ne6).trans h6.pr.blk
 have z7:=thaw blk7 6
 have h8:=h6.pushS hU hown (Px W5) h5.size (λhm=>z7z _ (h5.mlt _ hm)) (by have:=HF.out;omega)
 have B8:Below B w (w7.setCell ⟨pb,6,none⟩ (.slice oo (c.scs.length+1) oc)):=(B5.out.trans ((((z1z _ W5).alloc (z0z _) (.map #[] 0)).mono h5.size).trans (hU.below h6.size (λk e=>(Ba h6.pr.scs e).1)))).setCell (p:=⟨pb,6,none⟩) h5.low _
 have K8:A9 w (w7.setCell ⟨pb,6,none⟩ (.slice oo (c.scs.length+1) oc)):=((K5.out.more ((z1z _ W5).alloc (z0z _) (.map #[] 0))).upd hU (λk e=>by obtain⟨_,cur,h3⟩:=Ba h6.pr.scs e;exact⟨_,h3,by show 83+2≠_;decide⟩)).set blk7 (by show 91+2≠_;decide) 6 _
 have HK8:=hid K8
 have hmm:=@run_makeMap prog
 have p7:=AU blk7 6
 change _=some sv at p7
 have H8:=hid h8
 have HB8:=hid B8
 have e9:(W5.alloc (.map #[] 0)).heap.size=W5.heap.size+1:=by simp
 rw[e9] at hr
 clear h5 h6 hU hown hgr blk7 h8 B8 B5 hk HK HF HN K8 K5
 have HR:=hid hr
 clear hr
 go_upto_region 4 with fail
 go_wp2_with (at_builtin;refine Lib.wpList_append_run _ rfl (.tmp 46) (.tmp 48) 86 86 rfl sv (.slice (some ⟨W5.heap.size+1,0,none⟩) 1 1) (by simp[Act.eval]) (by simp[Act.eval]) _ w7 HR.out ?_)
 refine bodyPost_end (results_none rfl _ _ _) rfl ?_
 exact⟨rfl,HB8.out,HK8.out,_,_,H8.out⟩
end
theorem yH{w:World}{b i:Nat}{v:Value}(h:w.cell? ⟨b,i,none⟩=some v):b<w.heap.size:=by
 by_cases hb:b<w.heap.size
 ·exact hb
 ·simp[World.cell?,Array.getElem?_eq_none (Nat.le_of_not_lt hb)] at h
section
variable {B:Nat} {w w':World} {pb:Nat} {L:List (Nd × Nat)} {E:List Nat} {mr:Int} {pm:List (ByteArray × Nat)} {lv ev:Value} {mp mt mc:Nat} {ov sv pv:Value} {bs:List Nat} {c:Sc}
theorem uH(h:Pz B w pb L E mr pm lv ev mp mt mc ov sv pv bs c){o1 o:Nat × Nat × Nat}{r:List (Nat × Nat × Nat)}(ho:c.opn=o1::o::r){n:Nd}{kids:Nat}(hn:L[o.1]? = some (n,kids))(hf:c.scs.length<199999)(hk:n.kind=11) :
  Calls prog 76 #[.pointer (some ⟨pb,0,none⟩)] w λe w'=>e=.returned (.tuple #[])/\Below B w w'/\A9 w w'/\∃sv' bs',Pz B w' pb L E mr pm lv ev mp mt mc ov sv' pv bs' { c with scs:=[]::EM [] n.text o.1::c.scs }:=by
 obtain⟨g,cap,rfl,hc,hg,d0⟩:=h.pr.next ho
 have p5:=AU h.pr.blk 5
 change _=some (Value.slice (some ⟨g,0,none⟩) (r.length+2) cap) at p5
 have hrl:r.length<=100000:=by have:=h.pr.few;rw[ho] at this;simp at this;omega
 have o1':z3z.wrap (((r.length+2:Nat):Int)-2)=r.length:=by rw[z4z];omega
 have o2:(0:Int)<=r.length:=by omega
 have o3:(r.length:Int)<((r.length+2:Nat):Int):=by omega
 have o8:wrap64 ((r.length:Nat):Int)=r.length:=by unfold wrap64;omega
 have H:=hid h
 have HN:=hid hn
 have HF:=hid hf
 have hlt:=h.lt
 have hsz:=h.size
 have HK:=hid hk
 clear h ho hn hf hk
 generalize r.length=rl at *
 go_enter func76,ntmps76
 go_upto_region 1 with fail
 have f5:=BW.cell p5
 have f1:=BW.cell d0
 have inst:Nonempty (BW w):=⟨⟨_,z1z _ _⟩⟩
 clear p5 d0
 (refine Ji (by kernel_rfl) (by kernel_rfl) ?_);(repeat (go_big_quiet_step (fail)));(refine wpQuiet_nil ?_);intro _ hw';(obtain⟨pw,hw''⟩:=hw');subst hw''
 have b0:=pw.h
 have h4:=H.out.below b0
 have HB4:=hid (b0.mono hsz)
 have K4:=hid ((A9.refl w).more b0)
 clear f5 f1 inst o1' o2 o3 o8 H b0 hg hc hrl
 generalize pw.w'=W4 at *
 clear pw
 have H4:=hid h4
 have hn:=HN.out
 obtain⟨gl,lc,hlv,hgl,hLl,_⟩:=id h4.pr.row
 have hrow:=h4.pr.row
 rw[hlv] at hrow
 obtain⟨c0,c1,c2,c3,c4,c5⟩:=hrow.at hn
 simp only at c0 c1 c2 c3 c4 c5
 have p0:=AU h4.pr.blk 0
 change _=some lv at p0
 rw[hlv] at p0
 have hal:=(z13z.1 hn).1
 have m1:(0:Int)<=(o.1:Nat):=by omega
 have m2:((o.1:Nat):Int)<L.length:=by omega
 have bz:Below W4.heap.size W4 (W4.alloc (.cells #[.int .i64 0,.int .i64 0,.int .i64 0,.string ⟨#[]⟩,.int .i64 0,.int .u64 0] 48)):=(z1z _ W4).alloc (z0z _) _
 have d0:=(bz.cell (p:=⟨gl,o.1*6,none⟩) hgl).trans c0
 have d1:=(bz.cell (p:=⟨gl,o.1*6+1,none⟩) hgl).trans c1
 have d2:=(bz.cell (p:=⟨gl,o.1*6+2,none⟩) hgl).trans c2
 have d3:=(bz.cell (p:=⟨gl,o.1*6+3,none⟩) hgl).trans c3
 have d4:=(bz.cell (p:=⟨gl,o.1*6+4,none⟩) hgl).trans c4
 have d5:=(bz.cell (p:=⟨gl,o.1*6+5,none⟩) hgl).trans c5
 have q0:=(bz.cell (p:=⟨pb,0,none⟩) h4.lt).trans p0
 clear h4 hlv hgl hLl hrow hn hal bz
 generalize L.length=ln at *
 go_upto_region 2 with fail
 have b5:Below W4.heap.size W4 (W4.alloc (Ab n kids)):=(z1z _ W4).alloc (z0z _) _
 have nb:=z5z W4 #[.int .i64 n.kind,.int .i64 n.a,.int .i64 (kids:Nat),.string n.text,.int .i64 n.int,.int .u64 n.bits] 48
 have x0:(W4.alloc (Ab n kids)).cell? ⟨W4.heap.size,0,none⟩=some (.int .i64 n.kind):=nb 0
 have x3:(W4.alloc (Ab n kids)).cell? ⟨W4.heap.size,3,none⟩=some (.string n.text):=nb 3
 have h5:=H4.out.below b5
 have hso:sv.ownBlock≠some W4.heap.size:=λe=>z7z _ (VO H4.out.pr.scs e)
 have B5:=hid (HB4.out.trans (b5.mono H4.out.size))
 have K5:=hid (K4.out.more b5)
 clear nb b5 d0 d1 d2 d3 d4 d5 q0 c0 c1 c2 c3 c4 c5 p0 m1 m2 H4 HB4 K4
 simp only[Ab] at *
 generalize World.alloc _ _=W5 at *
 generalize W4.heap.size=nbk at *
 have hk:=HK.out
 have b6:(n.kind==11)=true:=by simpa using hk
 have p6:=AU h5.pr.blk 6
 change _=some sv at p6
 have hnl:nbk<W5.heap.size:=yH x3
 have h5d:=h5.drew
 obtain⟨W7,hput,hm7,hg7⟩:=Lu (P:=prog) J5 II (Px W5.drew) n.text o.1
 have b7:Below W5.drew.heap.size W5.drew W7:=(((It.AL.refl (λ_=>False) W5.drew).alloc _).grown hg7 (λk e=>.inr (by cases e;exact⟨z0z _,by simp⟩))).below (z0z _) (λ_ h=>h.elim)
 have h7:=h5d.below b7
 obtain⟨sv1,w8,hr1,hown1,hgr1⟩:=Qz W7 86 sv c.scs.length _ h7.pr.scs h7.size W5.drew.heap.size (by have:=HF.out;omega)
 obtain⟨oo1,oc1,rfl⟩:=Et hown1
 have hU8:It.AL (λk=>sv.ownBlock=some k) W7 w8:=((It.AL.refl _ _).alloc _).grown hgr1 (λk e=>.inl e)
 have blk8:=(hU8.block pb h7.lt h7.ne6).trans h7.pr.blk
 have z8:=thaw blk8 6
 have h9:=h7.pushS hU8 hown1 hm7 h5d.size (λhm=>z7z _ (h5d.mlt _ hm)) (by have:=HF.out;omega)
 have B9:Below B w (w8.setCell ⟨pb,6,none⟩ (.slice oo1 (c.scs.length+1) oc1)):=(B5.out.drew.trans ((b7.mono h5d.size).trans (hU8.below h7.size (λk e=>(Ba h7.pr.scs e).1)))).setCell (p:=⟨pb,6,none⟩) h5.low _
 have K9:=hid (show A9 w (w8.setCell ⟨pb,6,none⟩ (.slice oo1 (c.scs.length+1) oc1)) from((K5.out.drew.more b7).upd hU8 (λk e=>by obtain⟨_,cur,h3⟩:=Ba h7.pr.scs e;exact⟨_,h3,by show 83+2≠_;decide⟩)).set blk8 (by show 91+2≠_;decide) 6 _)
 have S5:W5.drew.cell? ⟨pb,6,none⟩=some sv/\W5.drew.cell? ⟨nbk,3,none⟩=some (.string n.text):=⟨p6,x3⟩
 have ba:=(z1z _ W5.drew).alloc (z0z W5.drew.heap.size) (.map #[] 0)
 have S6:(W5.drew.alloc (.map #[] 0)).cell? ⟨pb,6,none⟩=some sv/\(W5.drew.alloc (.map #[] 0)).cell? ⟨nbk,3,none⟩=some (.string n.text):=⟨(ba.cell (p:=⟨pb,6,none⟩) h5d.lt).trans S5.1,(ba.cell (p:=⟨nbk,3,none⟩) hnl).trans S5.2⟩
 have S7:W7.cell? ⟨pb,6,none⟩=some sv/\W7.cell? ⟨nbk,3,none⟩=some (.string n.text):=⟨(b7.cell (p:=⟨pb,6,none⟩) h5d.lt).trans S5.1,(b7.cell (p:=⟨nbk,3,none⟩) hnl).trans S5.2⟩
 have bb:=(z1z _ W7).alloc (z0z W7.heap.size) (.cells #[.map (some W5.drew.heap.size)] 83)
 have S7a:(W7.alloc (.cells #[.map (some W5.drew.heap.size)] 83)).cell? ⟨pb,6,none⟩=some sv/\(W7.alloc (.cells #[.map (some W5.drew.heap.size)] 83)).cell? ⟨nbk,3,none⟩=some (.string n.text):=⟨(bb.cell (p:=⟨pb,6,none⟩) h7.lt).trans S7.1,(bb.cell (p:=⟨nbk,3,none⟩) (Nat.lt_of_lt_of_le hnl b7.size)).trans S7.2⟩
 have S8:w8.cell? ⟨pb,6,none⟩=some sv/\w8.cell? ⟨nbk,3,none⟩=some (.string n.text):=by
  refine⟨AU blk8 6,?_⟩
  have e:=hU8.block nbk (Nat.lt_of_lt_of_le hnl b7.size) hso
  have e2:=S7.2
  simp only[World.cell?,e] at e2 ⊢
  exact e2
 have H9:=hid h9
 have HB9:=hid B9
 have HZ8:=hid z8
 have HR1:=hid hr1
 have HP:=hid hput
 have HS6:=hid S6
 have HS7:=hid S7
 have HS7a:=hid S7a
 have HS8:=hid S8
 have hmm:=@run_makeMap prog
 clear h5 h5d h7 hm7 hg7 b7 hr1 hown1 hgr1 hU8 blk8 z8 h9 B9 ba bb S6 S7 S7a S8 hput hso hk B5 HK HN K5
 go_upto_region 3 with fail
 refine It.Eu (z:=15) (S:=λw'=>w'.cell? ⟨pb,6,none⟩=some sv/\w'.cell? ⟨nbk,3,none⟩=some (.string n.text)) (by kernel_rfl) ?_
 clear x0 x3 p6 b6
 generalize W5.drew=Wd at *
 iterate 5 ((refine It.nL 0 ?_ rfl (by kernel_rfl) (λ_ _ _ h=>h) (Or.inl ⟨by rfl,?_⟩) S5 ?_);rotate_left;(focus (intro w' hSw;(obtain⟨s0,s1⟩:=hSw);go_simp;(try with_reducible rfl)));(try simp only[Act.put,zx1,zx2,zx3,zx4,zx5,zx6]))
 iterate 3 ((refine It.nL 6 ?_ rfl (by kernel_rfl) (λ_ _ _ h=>h) (Or.inl ⟨by rfl,?_⟩) S5 ?_);rotate_left;(focus (intro w' hSw;(obtain⟨s0,s1⟩:=hSw);go_simp;(try with_reducible rfl)));(try simp only[Act.put,zx1,zx2,zx3,zx4,zx5,zx6]))
 refine It.Aa (i:=5) (by kernel_rfl) rfl rfl (λK hK=>?_)
 refine It.AZ (λc h=>by cases h) ?_
 have HK1:=hid hK
 clear hK
 go_simp
 refine HK1.out _ _ (.inr HS6.out) ?_
 clear HK1
 (try simp only[Act.put,zx1,zx2,zx3,zx4,zx5,zx6])
 refine It.Aa (i:=9) (by kernel_rfl) rfl rfl (λK hK=>?_)
 refine It.AZ (λc h=>by cases h) ?_
 have HK1:=hid hK
 clear hK
 have hput:=HP.out
 go_simp
 refine HK1.out _ _ (.inr HS7.out) ?_
 clear HK1 hput
 (try simp only[Act.put,zx1,zx2,zx3,zx4,zx5,zx6])
 refine It.Aa (i:=10) (by kernel_rfl) rfl rfl (λK hK=>?_)
 refine It.AZ (λc h=>by cases h) ?_
 have HK1:=hid hK
 clear hK
 go_simp
 refine HK1.out _ _ (.inr HS7.out) ?_
 clear HK1
 (try simp only[Act.put,zx1,zx2,zx3,zx4,zx5,zx6])
 refine It.Aa (i:=11) (by kernel_rfl) rfl rfl (λK hK=>?_)
 refine It.AZ (λc h=>by cases h) ?_
 have HK1:=hid hK
 clear hK
 go_simp
 refine HK1.out _ _ (.inr HS7a.out) ?_
 clear HK1
 (try simp only[Act.put,zx1,zx2,zx3,zx4,zx5,zx6])
 refine It.Aa (i:=12) (by kernel_rfl) rfl rfl (λK hK=>?_)
 refine It.AZ (λc h=>by cases h) ?_
 have HK1:=hid hK
 clear hK
 refine Lib.wp_append_run _ (.tmp 32) (.tmp 38) 86 86 rfl _ _ rfl rfl _ _ HR1.out ?_
 refine HK1.out _ _ (.inr HS8.out) ?_
 clear HK1
 (try simp only[Act.put,zx1,zx2,zx3,zx4,zx5,zx6])
 refine It.Aa (i:=13) (by kernel_rfl) rfl rfl (λK hK=>?_)
 refine It.AZ (λc h=>by cases h) ?_
 have HK1:=hid hK
 clear hK
 go_simp
 refine HK1.out _ _ (.inr HS8.out) ?_
 clear HK1
 (try simp only[Act.put,zx1,zx2,zx3,zx4,zx5,zx6])
 refine It.Aa (i:=14) (by kernel_rfl) rfl rfl (λK hK=>?_)
 refine It.AZ (λc h=>by cases h) ?_
 have HK1:=hid hK
 clear hK
 go_simp
 refine HK1.out _ _ (.inr HS8.out) ?_
 clear HK1
 (try simp only[Act.put,zx1,zx2,zx3,zx4,zx5,zx6])
 refine It.Aa (i:=15) (by kernel_rfl) rfl rfl (λK hK=>?_)
 refine It.AZ (λc h=>by cases h) ?_
 have HK1:=hid hK
 clear hK
 have z8:=HZ8.out
 have p8:=HS8.out.1
 go_simp
 refine HK1.out _ _ (.inl rfl) ?_
 clear HK1 z8 p8
 (try simp only[Act.put,zx1,zx2,zx3,zx4,zx5,zx6])
 refine It.EU (by kernel_rfl) ?_ _
 have h5:=H9.out
 have hF:=HF.out
 clear H9 HZ8 HR1 HP HS6 HS7 HS7a HS8 S5
 have B5:=HB9
 clear HB9
 generalize World.setCell _ _ _=W9 at *
 have p6:=AU h5.pr.blk 6
 change _=some (Value.slice oo1 (c.scs.length+1) oc1) at p6
 have h6:=h5.below ((z1z _ W9).alloc (z0z _) (.map #[] 0))
 obtain⟨sv',w7,hr,hown,hgr⟩:=Qz (W9.alloc (.map #[] 0)) 86 (.slice oo1 (c.scs.length+1) oc1) (c.scs.length+1) _ h6.pr.scs h6.size W9.heap.size (by omega)
 obtain⟨oo,oc,rfl⟩:=Et hown
 have hU:It.AL (λk=>(Value.slice oo1 (c.scs.length+1) oc1).ownBlock=some k) (W9.alloc (.map #[] 0)) w7:=((It.AL.refl _ _).alloc _).grown hgr (λk e=>.inl e)
 have blk7:=(hU.block pb h6.lt h6.ne6).trans h6.pr.blk
 have z7:=thaw blk7 6
 have h8:=h6.pushS hU hown (Px W9) h5.size (λhm=>z7z _ (h5.mlt _ hm)) (by simp;omega)
 have B8:Below B w (w7.setCell ⟨pb,6,none⟩ (.slice oo (c.scs.length+1+1) oc)):=(B5.out.trans ((((z1z _ W9).alloc (z0z _) (.map #[] 0)).mono h5.size).trans (hU.below h6.size (λk e=>(Ba h6.pr.scs e).1)))).setCell (p:=⟨pb,6,none⟩) h5.low _
 have HK8:=hid (show A9 w (w7.setCell ⟨pb,6,none⟩ (.slice oo (c.scs.length+1+1) oc)) from((K9.out.more ((z1z _ W9).alloc (z0z _) (.map #[] 0))).upd hU (λk e=>by obtain⟨_,cur,h3⟩:=Ba h6.pr.scs e;exact⟨_,h3,by show 83+2≠_;decide⟩)).set blk7 (by show 91+2≠_;decide) 6 _)
 have p7:=AU blk7 6
 change _=some (Value.slice oo1 (c.scs.length+1) oc1) at p7
 have H8:=hid h8
 have HB8:=hid B8
 have e9:(W9.alloc (.map #[] 0)).heap.size=W9.heap.size+1:=by simp
 rw[e9] at hr
 have HR:=hid hr
 clear h5 h6 hU hown hgr blk7 h8 B8 B5 HF hr K9
 go_upto_region 4 with fail
 go_wp2_with (at_builtin;refine Lib.wpList_append_run _ rfl (.tmp 46) (.tmp 48) 86 86 rfl (.slice oo1 (c.scs.length+1) oc1) (.slice (some ⟨W9.heap.size+1,0,none⟩) 1 1) (by simp[Act.eval]) (by simp[Act.eval]) _ w7 HR.out ?_)
 refine bodyPost_end (results_none rfl _ _ _) rfl ?_
 exact⟨rfl,HB8.out,HK8.out,_,_,H8.out⟩
end
end Go.Proofs.YtjplieobnknnpaaGreatDoor.W.Tr

import Derived.Test.YteffljnjmcjdfaaGreatDoorJG
import Derived.Test.YteffljnjmcjdfaaGreatDoorTlAJ
import Derived.Test.YteffljnjmcjdfaaGreatDoorKD
import Derived.Test.YteffljnjmcjdfaaGreatDoorJK
import Derived.Test.YteffljnjmcjdfaaGreatDoorTlB0J
import Derived.Test.YteffljnjmcjdfaaGreatDoorTlB1J
import Derived.Test.YteffljnjmcjdfaaGreatDoorTlB2J
import Derived.Test.YteffljnjmcjdfaaGreatDoorTlB3J
import Derived.Test.YteffljnjmcjdfaaGreatDoorKG
open List renaming mem_cons → z5z, not_mem_nil → z6z, getElem?_eq_getElem → z13z, all_eq_true → z14z, drop_eq_getElem_cons → z17z, getD_eq_getElem?_getD → z18z
open Array renaming toList_append → z15z
open Nat renaming le_refl → z3z, eq_of_beq_eq_true → z16z
open Go.World renaming setCell → z0z, alloc → z1z, alloc_heap_new → z4z
open Go.RowKit.Below renaming refl → z2z, heap_setCell → z8z
open Bool renaming and_eq_true → z10z
open Go.IntKind renaming i64 → z11z, wrap_i64 → z12z
open Go.AllReadyH renaming cons → z7z, nil → z9z
open Go.Proofs.Tryz
open List renaming getElem_toArray → zx1, getElem_cons_zero → zx2, getElem_cons_succ → zx3, setIfInBounds_toArray → zx4, set_cons_zero → zx5, set_cons_succ → zx6
set_option maxRecDepth 1000000
set_option maxHeartbeats 8000000
namespace Go.Proofs.YteffljnjmcjdfaaGreatDoor.W.Tr
open Go.ChangeShapes Go.WideShapes Go.RowKit Go.Shelf
set_option linter.unusedVariables false
set_option linter.unusedSimpArgs false
def zN:Nd × Nat:=(⟨0,0,⟨#[]⟩,0,0⟩,0)
def put6(W:World)(b:Nat)(x:Nd × Nat):World:=z0z (z0z (z0z (z0z (z0z (z0z (W) ⟨b,0,none⟩ (.int .i64 x.1.kind)) ⟨b,1,none⟩ (.int .i64 x.1.a)) ⟨b,2,none⟩ (.int .i64 (x.2:Nat))) ⟨b,3,none⟩ (.string x.1.text)) ⟨b,4,none⟩ (.int .i64 x.1.int)) ⟨b,5,none⟩ (.int .u64 x.1.bits)
theorem put6_far(W:World)(b:Nat)(x:Nd × Nat)(k:Nat)(h:k≠b):(put6 W b x).heap[k]? = W.heap[k]?:=by
 unfold put6
 rw[z8z _ _ _ _ h,z8z _ _ _ _ h,z8z _ _ _ _ h,z8z _ _ _ _ h,z8z _ _ _ _ h,z8z _ _ _ _ h]
theorem put6_own{W:World}{b:Nat}{p:Nd × Nat}(h:W.heap[b]? = some (.cells (nda p) 40 (0,0)))(x:Nd × Nat):(put6 W b x).heap[b]? = some (.cells (nda x) 40 (0,0)):=by
 have h0:W.heap[b]? = some (.cells [Value.int .i64 p.1.kind,.int .i64 p.1.a,.int .i64 (p.2:Nat),.string p.1.text,.int .i64 p.1.int,.int .u64 p.1.bits].toArray 40 (0,0)):=h
 exact heap_setX (heap_setX (heap_setX (heap_setX (heap_setX (heap_setX h0 0 _) 1 _) 2 _) 3 _) 4 _) 5 _
theorem put6_below{W0 W:World}{b:Nat}(h:Below W0.heap.size W0 W)(hb:W0.heap.size<=b)(x:Nd × Nat):Below W0.heap.size W0 (put6 W b x):=
 (((((h.setCell (p:=⟨b,0,none⟩) hb _).setCell (p:=⟨b,1,none⟩) hb _).setCell (p:=⟨b,2,none⟩) hb _).setCell (p:=⟨b,3,none⟩) hb _).setCell (p:=⟨b,4,none⟩) hb _).setCell (p:=⟨b,5,none⟩) hb _
structure Bn (W0 W:World) (xb yb:Nat) (x y:Nd × Nat):Prop where
 bel:Below W0.heap.size W0 W
 ne:xb≠yb
 gx:W0.heap.size<=xb
 gy:W0.heap.size<=yb
 fx:W.heap[xb]? = some (.cells (nda x) 40 (0,0))
 fy:W.heap[yb]? = some (.cells (nda y) 40 (0,0))
section
variable {W0 W:World} {xb yb:Nat} {x y:Nd × Nat}
theorem Bn.swap(h:Bn W0 W xb yb x y):Bn W0 W yb xb y x:=⟨h.bel,λe=>h.ne e.symm,h.gy,h.gx,h.fy,h.fx⟩
theorem Bn.putx(h:Bn W0 W xb yb x y)(x':Nd × Nat):Bn W0 (put6 W xb x') xb yb x' y:=
 ⟨put6_below h.bel h.gx _,h.ne,h.gx,h.gy,put6_own h.fx _,(put6_far W xb x' yb (λe=>h.ne e.symm)).trans h.fy⟩
theorem Bn.puty(h:Bn W0 W xb yb x y)(y':Nd × Nat):Bn W0 (put6 W yb y') xb yb x y':=(h.swap.putx y').swap
def noA(p:Nd × Nat):Nd × Nat:=(⟨p.1.kind,0,p.1.text,p.1.int,p.1.bits⟩,p.2)
theorem Bn.setx(h:Bn W0 W xb yb x y):Bn W0 (W.setCell ⟨xb,1,none⟩ (.int .i64 0)) xb yb (noA x) y:=by
 have f:W.heap[xb]? = some (.cells [Value.int .i64 x.1.kind,.int .i64 x.1.a,.int .i64 (x.2:Nat),.string x.1.text,.int .i64 x.1.int,.int .u64 x.1.bits].toArray 40 (0,0)):=h.fx
 exact⟨h.bel.setCell (p:=⟨xb,1,none⟩) h.gx _,h.ne,h.gx,h.gy,heap_setX f 1 _,(z8z _ _ _ _ (λe=>h.ne e.symm)).trans h.fy⟩
theorem Bn.sety(h:Bn W0 W xb yb x y):Bn W0 (W.setCell ⟨yb,1,none⟩ (.int .i64 0)) xb yb x (noA y):=h.swap.setx.swap
def Six(W:World)(b:Nat)(x:Nd × Nat):Prop:=W.cell? ⟨b,0,none⟩=some (.int .i64 x.1.kind)/\W.cell? ⟨b,1,none⟩=some (.int .i64 x.1.a)/\W.cell? ⟨b,2,none⟩=some (.int .i64 (x.2:Nat))/\W.cell? ⟨b,3,none⟩=some (.string x.1.text)/\W.cell? ⟨b,4,none⟩=some (.int .i64 x.1.int)/\W.cell? ⟨b,5,none⟩=some (.int .u64 x.1.bits)/\∀j,W.frozen? ⟨b,j,none⟩=false
theorem Bn.cx(h:Bn W0 W xb yb x y):Six W xb x:=by
 have c:=row_cellsX h.fx
 exact⟨c 0,c 1,c 2,c 3,c 4,c 5,row_thawX h.fx⟩
theorem Bn.cy(h:Bn W0 W xb yb x y):Six W yb y:=h.swap.cx
theorem bn_next{Wa:World}(hB:Below W.heap.size W Wa)(f:Wa.heap[W.heap.size]? = some (.cells #[.int .i64 0,.int .i64 0,.int .i64 0,.string ⟨#[]⟩,.int .i64 0,.int .u64 0] 40 (0,0))):Bn W (Wa.alloc (.cells #[.int .i64 0,.int .i64 0,.int .i64 0,.string ⟨#[]⟩,.int .i64 0,.int .u64 0] 40)) W.heap.size Wa.heap.size zN zN:=by
 have hl:=(Array.getElem?_eq_some_iff.1 f).1
 exact⟨hB.alloc hB.size _,by omega,z3z _,hB.size,(Below.heap_alloc _ _ _ hl).trans f,z4z Wa _⟩
end
def nq(p q:Nd × Nat):Bool:=(p.1.kind==q.1.kind)&&(((p.2:Nat):Int)==(q.2:Nat))&&(p.1.text.toList==q.1.text.toList)&&(p.1.int==q.1.int)&&(p.1.bits==q.1.bits)
theorem nq_nd(p q:Nd × Nat):nq p q=ndB p q:=by
 unfold nq ndB
 have e1:(((p.2:Nat):Int)==(q.2:Nat))=Nat.beq p.2 q.2:=by
  by_cases h:p.2=q.2
  ·rw[h];simp
  ·have h1:Nat.beq p.2 q.2=false:=by
    cases hb:Nat.beq p.2 q.2
    ·rfl
    ·exact absurd (z16z hb) h
   rw[h1]
   have:¬ ((p.2:Nat):Int)=(q.2:Nat):=by omega
   simpa using this
 rw[e1,ByteArray.toList_eq,ByteArray.toList_eq]
def Six6(W:World)(g i:Nat)(p:Nd × Nat):Prop:=W.cell? ⟨g,i*6,none⟩=some (.int .i64 p.1.kind)/\W.cell? ⟨g,i*6+1,none⟩=some (.int .i64 p.1.a)/\W.cell? ⟨g,i*6+2,none⟩=some (.int .i64 (p.2:Nat))/\W.cell? ⟨g,i*6+3,none⟩=some (.string p.1.text)/\W.cell? ⟨g,i*6+4,none⟩=some (.int .i64 p.1.int)/\W.cell? ⟨g,i*6+5,none⟩=some (.int .u64 p.1.bits)
theorem nr_cells'{W:World}{gl lc n:Nat}{L:List (Nd × Nat)}(h:NR W (.slice (some ⟨gl,0,none⟩) n lc) L)(i:Nat)(p:Nd × Nat)(hp:L[i]? = some p):Six6 W gl i p:=by
 obtain⟨g,cap,e,h1,h2⟩:=h
 simp only[Value.slice.injEq,Option.some.injEq,Addr.mk.injEq,true_and,and_true] at e
 obtain⟨rfl,_,rfl⟩:=e
 exact⟨h2 i p hp 0 (by omega),h2 i p hp 1 (by omega),h2 i p hp 2 (by omega),h2 i p hp 3 (by omega),h2 i p hp 4 (by omega),h2 i p hp 5 (by omega)⟩
theorem neq_run(x y:Nd × Nat)(w:World):(binOp .neq 40 (.agg #[.int .i64 x.1.kind,.int .i64 0,.int .i64 (x.2:Nat),.string x.1.text,.int .i64 x.1.int,.int .u64 x.1.bits]) (.agg #[.int .i64 y.1.kind,.int .i64 0,.int .i64 (y.2:Nat),.string y.1.text,.int .i64 y.1.int,.int .u64 y.1.bits])).run prog w=.ok (.bool (!nq x y)) w:=by
 unfold nq
 cases h1:x.1.kind==y.1.kind <;> cases h2:((x.2:Nat):Int)==(y.2:Nat) <;> cases h3:x.1.text.toList==y.1.text.toList <;> cases h4:x.1.int==y.1.int <;> cases h5:x.1.bits==y.1.bits <;> simp[go_sem,h1,h2,h3,h4,h5]
theorem neq_guard(x y:Nd × Nat)(o p:Operand)(w:World):(eqGuard .neq 40 o p (.agg #[.int .i64 x.1.kind,.int .i64 0,.int .i64 (x.2:Nat),.string x.1.text,.int .i64 x.1.int,.int .u64 x.1.bits]) (.agg #[.int .i64 y.1.kind,.int .i64 0,.int .i64 (y.2:Nat),.string y.1.text,.int .i64 y.1.int,.int .u64 y.1.bits])).run prog w=.ok () w:=run_eqGuard_agg w .neq _ o p _ _ (by kernel_rfl)
def nqP(x y:Nd × Nat):Prop:=x.1.kind=y.1.kind/\((x.2:Nat):Int)=(y.2:Nat)/\x.1.text.toList=y.1.text.toList/\x.1.int=y.1.int/\x.1.bits=y.1.bits
theorem nq_true{x y:Nd × Nat}(h:nqP x y):nq x y=true:=by
 obtain⟨a,b,c,d,e⟩:=h
 unfold nq
 simp only[a,b,c,d,e,beq_self_eq_true,Bool.and_self]
theorem nq_false{x y:Nd × Nat}(h:¬nqP x y):nq x y=false:=by
 cases hq:nq x y
 ·rfl
 ·exfalso
  apply h
  unfold nq at hq
  simp only[z10z,beq_iff_eq] at hq
  exact⟨hq.1.1.1.1,hq.1.1.1.2,hq.1.1.2,hq.1.2,hq.2⟩
theorem bare_c(w:World)(va vb:Value)(L M:List (Nd × Nat))(hL:NR w va L)(hM:NR w vb M)(ha:∀k,va.ownBlock=some k->k<w.heap.size)(hb:∀k,vb.ownBlock=some k->k<w.heap.size):Calls prog 9 #[va,vb] w λe w'=>e=.returned (.bool (bareP L M))/\Below w.heap.size w w':=by
  obtain⟨ga,ca,rfl,la,-⟩:=id hL
  obtain⟨gb,cb,rfl,lb,-⟩:=id hM
  by_cases hlen:L.length=M.length
  case neg=>
    have hR:bareP L M=false:=by
      clear hL hM ha hb la lb
      induction L generalizing M with
      | nil=>cases M with
        | nil=>exact absurd rfl hlen
        | cons q M=>rfl
      | cons p L ih=>cases M with
        | nil=>rfl
        | cons q M=>
          unfold bareP
          rw[ih M (λe=>hlen (by simp[e]))]
          simp
    rw[hR]
    have hn:((L.length:Int)==(M.length:Int))=false:=by
      have:¬ (L.length:Int)=(M.length:Int):=by omega
      simpa using this
    have hn2:((L.length:Int)!=(M.length:Int))=true:=by simp[bne,hn]
    clear hL hM ha hb hR hlen
    go_enter func9,ntmps9
    go_wp2_with fail
    go_ret
    exact⟨rfl,z2z _ _⟩
  obtain⟨R,hR⟩:∃R,bareP L M=R:=⟨_,rfl⟩
  rw[hR]
  have HL:=hid hL
  have HM:=hid hM
  have HA:=hid ha
  have HB:=hid hb
  rw[<- hlen]
  have HLEN:=hid hlen
  clear hL hM ha hb hlen
  go_enter func9,ntmps9
  go_upto_region 4 with fail
  go_loopw [5,6,7] (λiv _ _ wr=>∃i:Nat,i<=L.length/\iv=.int .i64 (i:Nat)/\bareP (L.drop i) (M.drop i)=R/\Below w.heap.size w wr) (λiv _ _ _=>L.length-(intOf iv).toNat)
  case atStart=>exact⟨0,Nat.zero_le _,rfl,by simpa using hR,z2z _ _⟩
  case round=>
    obtain⟨i,hi,rfl,hRi,hB⟩:=hrel
    have hlen:=HLEN.out
    clear hR
    by_cases hlt:i<L.length
    case neg=>
      have e:i=L.length:=by omega
      have j1:¬ (i:Int)<L.length:=by omega
      rw[List.drop_of_length_le (by omega),List.drop_of_length_le (by omega)] at hRi
      have hRt:R=true:=by rw[<- hRi];rfl
      subst hRt
      have HBB:=hid hB
      clear hB hRi e hlen
      go_wp2_with fail
      go_ret
      exact⟨rfl,HBB.out⟩
    have j1:(i:Int)<L.length:=by omega
    have j2:(0:Int)<=i:=by omega
    have j3:z11z.wrap ((i:Int)+1)=((i+1:Nat):Int):=by rw[z12z];omega
    have hx:L[i]? = some L[i]:=z13z hlt
    have hy:M[i]? = some (M[i]'(by omega)):=z13z (by omega)
    have hRi2:(ndB L[i] (M[i]'(by omega))&&bareP (L.drop (i+1)) (M.drop (i+1)))=R:=by
      rw[<- hRi,z17z hlt,z17z (by omega:i<M.length)]
      rfl
    generalize L[i]=x at *
    generalize (M[i]'(by omega))=y at *
    have CC:Hid (∀w',Below wr.heap.size wr w'->Six6 w' ga i x/\Six6 w' gb i y):=by
      intro w' hB'
      have hB2:=hB.trans (hB'.mono hB.size)
      have n1:=HL.out.below hB2 HA.out
      have n2:=HM.out.below hB2 HB.out
      exact⟨nr_cells n1 i x hx,nr_cells' n2 i y hy⟩
    have HRi:=hid hRi2
    have HBB:=hid hB
    have er:=neq_run
    have eg:=neq_guard
    clear hRi hRi2 hB hx hy hlen
    go_upto_region 6 with fail
    refine wp_region_held_drew (S:=λw'=>Below wr.heap.size wr w') (by kernel_rfl) (z2z _ wr).drew ?_
    intro hS
    iterate 8 ((refine It.nH 0 ?_ rfl (by kernel_rfl) (λ_ _ _ h=>h) (Or.inl ⟨by rfl,?_⟩) hS ?_);rotate_left;(focus (intro w' hSw;obtain⟨⟨c0,c1,c2,c3,c4,c5⟩,⟨d0,d1,d2,d3,d4,d5⟩⟩:=CC.out w' hSw;go_simp;(try with_reducible rfl)));(try simp only[Act.put,zx1,zx2,zx3,zx4,zx5,zx6]))
    refine wpAnyH_ready (rs:=[8,9]) (by kernel_rfl) (by simp) ?_
    refine z7z rfl (λK hK=>?_) (z7z rfl (λK hK=>?_) z9z)
    · go_simp
      have za:Below wr.heap.size wr (wr.alloc (.cells #[.int .i64 0,.int .i64 0,.int .i64 0,.string ⟨#[]⟩,.int .i64 0,.int .u64 0] 40)).drew:=((z2z _ wr).alloc (z3z _) _).drew
      have zb:(wr.alloc (.cells #[.int .i64 0,.int .i64 0,.int .i64 0,.string ⟨#[]⟩,.int .i64 0,.int .u64 0] 40)).drew.heap[wr.heap.size]? = some (.cells #[.int .i64 0,.int .i64 0,.int .i64 0,.string ⟨#[]⟩,.int .i64 0,.int .u64 0] 40 (0,0)):=z4z wr _
      generalize (wr.alloc (.cells #[.int .i64 0,.int .i64 0,.int .i64 0,.string ⟨#[]⟩,.int .i64 0,.int .u64 0] 40)).drew=Wa at *
      refine hK.out _ _ za (λ_=>?_)
      clear hK K
      (try simp only[Act.put,zx1,zx2,zx3,zx4,zx5,zx6])
      refine wpAnyH_ready (rs:=[9]) (by kernel_rfl) (by simp) ?_
      refine z7z rfl (λK hK=>?_) z9z
      go_simp
      have bx:=bn_next za zb
      generalize Wa.alloc (.cells #[.int .i64 0,.int .i64 0,.int .i64 0,.string ⟨#[]⟩,.int .i64 0,.int .u64 0] 40)=Wb at *
      refine hK.out _ _ bx.bel (λ_=>?_)
      clear hK K za zb
      (try simp only[Act.put,zx1,zx2,zx3,zx4,zx5,zx6])
      have B1:=hid bx
      obtain⟨p0,p1,p2,p3,p4,p5,pz⟩:=bx.cx
      simp only[zN] at p0 p1 p2 p3 p4 p5
      clear bx
      refine wpAnyH_ready (rs:=[10]) (by kernel_rfl) (by simp) ?_
      refine z7z rfl (λK hK=>?_) z9z
      go_simp
      have b2:=B1.out.putx x
      unfold put6 at b2
      generalize z0z (z0z (z0z (z0z (z0z (z0z (Wb) ⟨wr.heap.size,0,none⟩ (.int .i64 x.1.kind)) ⟨wr.heap.size,1,none⟩ (.int .i64 x.1.a)) ⟨wr.heap.size,2,none⟩ (.int .i64 (x.2:Nat))) ⟨wr.heap.size,3,none⟩ (.string x.1.text)) ⟨wr.heap.size,4,none⟩ (.int .i64 x.1.int)) ⟨wr.heap.size,5,none⟩ (.int .u64 x.1.bits)=Wc at *
      refine hK.out _ _ b2.bel (λ_=>?_)
      clear hK K p0 p1 p2 p3 p4 p5 pz B1
      (try simp only[Act.put,zx1,zx2,zx3,zx4,zx5,zx6])
      have B2:=hid b2
      obtain⟨p0,p1,p2,p3,p4,p5,pz⟩:=b2.cy
      simp only[zN] at p0 p1 p2 p3 p4 p5
      clear b2
      refine wpAnyH_ready (rs:=[11]) (by kernel_rfl) (by simp) ?_
      refine z7z rfl (λK hK=>?_) z9z
      go_simp
      have b3:=B2.out.puty y
      unfold put6 at b3
      generalize z0z (z0z (z0z (z0z (z0z (z0z (Wc) ⟨Wa.heap.size,0,none⟩ (.int .i64 y.1.kind)) ⟨Wa.heap.size,1,none⟩ (.int .i64 y.1.a)) ⟨Wa.heap.size,2,none⟩ (.int .i64 (y.2:Nat))) ⟨Wa.heap.size,3,none⟩ (.string y.1.text)) ⟨Wa.heap.size,4,none⟩ (.int .i64 y.1.int)) ⟨Wa.heap.size,5,none⟩ (.int .u64 y.1.bits)=Wd at *
      refine hK.out _ _ b3.bel (λ_=>?_)
      clear hK K p0 p1 p2 p3 p4 p5 pz B2
      (try simp only[Act.put,zx1,zx2,zx3,zx4,zx5,zx6])
      refine wpAnyH_done (by kernel_rfl) ?_ _
      have b4:=b3.setx
      have b5:=b4.sety
      have nxy:=b3.ne
      have nyx:Wa.heap.size≠wr.heap.size:=λe=>nxy e.symm
      obtain⟨p0,p1,p2,p3,p4,p5,pz⟩:=b3.cx
      obtain⟨q0,q1,q2,q3,q4,q5,qz⟩:=b4.cy
      obtain⟨r0,r1,r2,r3,r4,r5,rz⟩:=b5.cx
      obtain⟨s0,s1,s2,s3,s4,s5,sz⟩:=b5.cy
      simp only[noA] at r0 r1 r2 r3 r4 r5 s0 s1 s2 s3 s4 s5
      have HB5:=hid (HBB.out.trans (b5.bel.mono HBB.out.size))
      clear b3 b4 b5 hS
      go_upto_region 8 with fail
      generalize z0z (z0z Wd _ _) _ _=We at *
      clear p0 p1 p2 p3 p4 p5 pz q0 q1 q2 q3 q4 q5 qz rz sz
      rw[<- nq_nd] at HRi
      clear er eg
      go_wp2_with fail
      all_goals first
        | (go_ret
           have hq:nq x y=false:=nq_false (by rintro⟨a,b,c,d,e⟩;contradiction)
           have hRf:R=false:=by rw[<- HRi.out,hq];rfl
           rw[hRf]
           exact⟨rfl,HB5.out⟩)
        | (have hq:nq x y=true:=nq_true ⟨by assumption,by assumption,by assumption,by assumption,by assumption⟩
           have HR2:Hid (bareP (L.drop (i+1)) (M.drop (i+1))=R):=hid (by rw[<- HRi.out,hq];rfl)
           go_roundw
           case rel=>exact⟨i+1,by omega,rfl,HR2.out,HB5.out⟩
           case measure=>show L.length-((i+1:Nat):Int).toNat<L.length-(i:Int).toNat;omega)
    · go_simp
      have za:Below wr.heap.size wr (wr.alloc (.cells #[.int .i64 0,.int .i64 0,.int .i64 0,.string ⟨#[]⟩,.int .i64 0,.int .u64 0] 40)).drew:=((z2z _ wr).alloc (z3z _) _).drew
      have zb:(wr.alloc (.cells #[.int .i64 0,.int .i64 0,.int .i64 0,.string ⟨#[]⟩,.int .i64 0,.int .u64 0] 40)).drew.heap[wr.heap.size]? = some (.cells #[.int .i64 0,.int .i64 0,.int .i64 0,.string ⟨#[]⟩,.int .i64 0,.int .u64 0] 40 (0,0)):=z4z wr _
      generalize (wr.alloc (.cells #[.int .i64 0,.int .i64 0,.int .i64 0,.string ⟨#[]⟩,.int .i64 0,.int .u64 0] 40)).drew=Wa at *
      refine hK.out _ _ za (λ_=>?_)
      clear hK K
      (try simp only[Act.put,zx1,zx2,zx3,zx4,zx5,zx6])
      refine wpAnyH_ready (rs:=[8]) (by kernel_rfl) (by simp) ?_
      refine z7z rfl (λK hK=>?_) z9z
      go_simp
      have bx:=bn_next za zb
      generalize Wa.alloc (.cells #[.int .i64 0,.int .i64 0,.int .i64 0,.string ⟨#[]⟩,.int .i64 0,.int .u64 0] 40)=Wb at *
      refine hK.out _ _ bx.bel (λ_=>?_)
      clear hK K za zb
      (try simp only[Act.put,zx1,zx2,zx3,zx4,zx5,zx6])
      replace bx:=bx.swap
      have B1:=hid bx
      obtain⟨p0,p1,p2,p3,p4,p5,pz⟩:=bx.cx
      simp only[zN] at p0 p1 p2 p3 p4 p5
      clear bx
      refine wpAnyH_ready (rs:=[10]) (by kernel_rfl) (by simp) ?_
      refine z7z rfl (λK hK=>?_) z9z
      go_simp
      have b2:=B1.out.putx x
      unfold put6 at b2
      generalize z0z (z0z (z0z (z0z (z0z (z0z (Wb) ⟨Wa.heap.size,0,none⟩ (.int .i64 x.1.kind)) ⟨Wa.heap.size,1,none⟩ (.int .i64 x.1.a)) ⟨Wa.heap.size,2,none⟩ (.int .i64 (x.2:Nat))) ⟨Wa.heap.size,3,none⟩ (.string x.1.text)) ⟨Wa.heap.size,4,none⟩ (.int .i64 x.1.int)) ⟨Wa.heap.size,5,none⟩ (.int .u64 x.1.bits)=Wc at *
      refine hK.out _ _ b2.bel (λ_=>?_)
      clear hK K p0 p1 p2 p3 p4 p5 pz B1
      (try simp only[Act.put,zx1,zx2,zx3,zx4,zx5,zx6])
      have B2:=hid b2
      obtain⟨p0,p1,p2,p3,p4,p5,pz⟩:=b2.cy
      simp only[zN] at p0 p1 p2 p3 p4 p5
      clear b2
      refine wpAnyH_ready (rs:=[11]) (by kernel_rfl) (by simp) ?_
      refine z7z rfl (λK hK=>?_) z9z
      go_simp
      have b3:=B2.out.puty y
      unfold put6 at b3
      generalize z0z (z0z (z0z (z0z (z0z (z0z (Wc) ⟨wr.heap.size,0,none⟩ (.int .i64 y.1.kind)) ⟨wr.heap.size,1,none⟩ (.int .i64 y.1.a)) ⟨wr.heap.size,2,none⟩ (.int .i64 (y.2:Nat))) ⟨wr.heap.size,3,none⟩ (.string y.1.text)) ⟨wr.heap.size,4,none⟩ (.int .i64 y.1.int)) ⟨wr.heap.size,5,none⟩ (.int .u64 y.1.bits)=Wd at *
      refine hK.out _ _ b3.bel (λ_=>?_)
      clear hK K p0 p1 p2 p3 p4 p5 pz B2
      (try simp only[Act.put,zx1,zx2,zx3,zx4,zx5,zx6])
      refine wpAnyH_done (by kernel_rfl) ?_ _
      have b4:=b3.setx
      have b5:=b4.sety
      have nxy:=b3.ne
      have nyx:wr.heap.size≠Wa.heap.size:=λe=>nxy e.symm
      obtain⟨p0,p1,p2,p3,p4,p5,pz⟩:=b3.cx
      obtain⟨q0,q1,q2,q3,q4,q5,qz⟩:=b4.cy
      obtain⟨r0,r1,r2,r3,r4,r5,rz⟩:=b5.cx
      obtain⟨s0,s1,s2,s3,s4,s5,sz⟩:=b5.cy
      simp only[noA] at r0 r1 r2 r3 r4 r5 s0 s1 s2 s3 s4 s5
      have HB5:=hid (HBB.out.trans (b5.bel.mono HBB.out.size))
      clear b3 b4 b5 hS
      go_upto_region 8 with fail
      generalize z0z (z0z Wd _ _) _ _=We at *
      clear p0 p1 p2 p3 p4 p5 pz q0 q1 q2 q3 q4 q5 qz rz sz
      rw[<- nq_nd] at HRi
      clear er eg
      go_wp2_with fail
      all_goals first
        | (go_ret
           have hq:nq x y=false:=nq_false (by rintro⟨a,b,c,d,e⟩;contradiction)
           have hRf:R=false:=by rw[<- HRi.out,hq];rfl
           rw[hRf]
           exact⟨rfl,HB5.out⟩)
        | (have hq:nq x y=true:=nq_true ⟨by assumption,by assumption,by assumption,by assumption,by assumption⟩
           have HR2:Hid (bareP (L.drop (i+1)) (M.drop (i+1))=R):=hid (by rw[<- HRi.out,hq];rfl)
           go_roundw
           case rel=>exact⟨i+1,by omega,rfl,HR2.out,HB5.out⟩
           case measure=>show L.length-((i+1:Nat):Int).toNat<L.length-(i:Int).toNat;omega)
def allocs(w:World)(os:List Obj):World:=os.foldl z1z w
theorem allocs_below(os:List Obj):∀w:World,Below w.heap.size w (allocs w os):=by
 induction os with
 | nil=>intro w;exact z2z _ _
 | cons o os ih=>
  intro w
  have h:=ih (w.alloc o)
  have h0:Below w.heap.size w (w.alloc o):=(z2z _ w).alloc (z3z _) _
  exact h0.trans (h.mono h0.size)
theorem allocs_at(os:List Obj):∀ (w:World) (j:Nat) (o:Obj),os[j]? = some o->(allocs w os).heap[w.heap.size+j]? = some o:=by
 induction os with
 | nil=>intro w j o h;simp at h
 | cons p os ih=>
  intro w j o h
  cases j with
  | zero=>
   simp at h
   subst h
   have h1:=z4z w p
   exact((allocs_below os (w.alloc p)).block w.heap.size (by simp)).trans h1
  | succ j=>
   have:=ih (w.alloc p) j o (by simpa using h)
   rw[World.size_alloc] at this
   rw[show w.heap.size+(j+1)=w.heap.size+1+j by omega]
   exact this
def opRow(i:Nat):List ByteArray:=(opT.getD i []).map λl=>⟨l.toArray⟩
def LvT(w W:World):Prop:=(∀i,i<9->W.cell? ⟨w.heap.size+9,i,none⟩=some (.slice (some ⟨w.heap.size+i,0,none⟩) (opRow i).length (opRow i).length))/\∀i k x,i<9->(opRow i)[k]? = some x->W.cell? ⟨w.heap.size+i,k,none⟩=some (.string x)
theorem row_cells0{W:World}{b:Nat}{l:List ByteArray}(h:W.heap[b]? = some (.cells (l.map Value.string).toArray 9 (0,0)))(k:Nat)(x:ByteArray)(hx:l[k]? = some x):W.cell? ⟨b,k,none⟩=some (.string x):=by
 rw[row_cellsX h k]
 simp[hx]
theorem lvT(w:World):LvT w (z1z (z1z (z1z (z1z (z1z (z1z (z1z (z1z (z1z (z1z (w) (.cells #[.string ⟨#[111,114]⟩] 9)) (.cells #[.string ⟨#[97,110,100]⟩] 9)) (.cells #[.string ⟨#[61,61]⟩,.string ⟨#[33,61]⟩,.string ⟨#[60]⟩,.string ⟨#[60,61]⟩,.string ⟨#[62]⟩,.string ⟨#[62,61]⟩] 9)) (.cells #[.string ⟨#[124]⟩] 9)) (.cells #[.string ⟨#[94]⟩] 9)) (.cells #[.string ⟨#[38]⟩] 9)) (.cells #[.string ⟨#[60,60]⟩,.string ⟨#[62,62]⟩] 9)) (.cells #[.string ⟨#[43]⟩,.string ⟨#[45]⟩] 9)) (.cells #[.string ⟨#[42]⟩,.string ⟨#[47]⟩,.string ⟨#[47,47]⟩,.string ⟨#[37]⟩] 9)) (.cells #[.slice (some ⟨w.heap.size,0,none⟩) 1 1,.slice (some ⟨w.heap.size+1,0,none⟩) 1 1,.slice (some ⟨w.heap.size+2,0,none⟩) 6 6,.slice (some ⟨w.heap.size+3,0,none⟩) 1 1,.slice (some ⟨w.heap.size+4,0,none⟩) 1 1,.slice (some ⟨w.heap.size+5,0,none⟩) 1 1,.slice (some ⟨w.heap.size+6,0,none⟩) 2 2,.slice (some ⟨w.heap.size+7,0,none⟩) 2 2,.slice (some ⟨w.heap.size+8,0,none⟩) 4 4] 42)):=by
 have h:=allocs_at [.cells #[.string ⟨#[111,114]⟩] 9,.cells #[.string ⟨#[97,110,100]⟩] 9,.cells #[.string ⟨#[61,61]⟩,.string ⟨#[33,61]⟩,.string ⟨#[60]⟩,.string ⟨#[60,61]⟩,.string ⟨#[62]⟩,.string ⟨#[62,61]⟩] 9,.cells #[.string ⟨#[124]⟩] 9,.cells #[.string ⟨#[94]⟩] 9,.cells #[.string ⟨#[38]⟩] 9,.cells #[.string ⟨#[60,60]⟩,.string ⟨#[62,62]⟩] 9,.cells #[.string ⟨#[43]⟩,.string ⟨#[45]⟩] 9,.cells #[.string ⟨#[42]⟩,.string ⟨#[47]⟩,.string ⟨#[47,47]⟩,.string ⟨#[37]⟩] 9,.cells #[.slice (some ⟨w.heap.size,0,none⟩) 1 1,.slice (some ⟨w.heap.size+1,0,none⟩) 1 1,.slice (some ⟨w.heap.size+2,0,none⟩) 6 6,.slice (some ⟨w.heap.size+3,0,none⟩) 1 1,.slice (some ⟨w.heap.size+4,0,none⟩) 1 1,.slice (some ⟨w.heap.size+5,0,none⟩) 1 1,.slice (some ⟨w.heap.size+6,0,none⟩) 2 2,.slice (some ⟨w.heap.size+7,0,none⟩) 2 2,.slice (some ⟨w.heap.size+8,0,none⟩) 4 4] 42] w
 refine⟨λi hi=>?_,λi k x hi hx=>?_⟩
 ·have h9:=row_cellsX (h 9 _ rfl) i
  have:i=0\/i=1\/i=2\/i=3\/i=4\/i=5\/i=6\/i=7\/i=8:=by omega
  rcases this with rfl|rfl|rfl|rfl|rfl|rfl|rfl|rfl|rfl <;> exact h9
 ·have:i=0\/i=1\/i=2\/i=3\/i=4\/i=5\/i=6\/i=7\/i=8:=by omega
  rcases this with rfl|rfl|rfl|rfl|rfl|rfl|rfl|rfl|rfl
  ·exact row_cells0 (l:=opRow 0) (h 0 _ rfl) k x hx
  ·exact row_cells0 (l:=opRow 1) (h 1 _ rfl) k x hx
  ·exact row_cells0 (l:=opRow 2) (h 2 _ rfl) k x hx
  ·exact row_cells0 (l:=opRow 3) (h 3 _ rfl) k x hx
  ·exact row_cells0 (l:=opRow 4) (h 4 _ rfl) k x hx
  ·exact row_cells0 (l:=opRow 5) (h 5 _ rfl) k x hx
  ·exact row_cells0 (l:=opRow 6) (h 6 _ rfl) k x hx
  ·exact row_cells0 (l:=opRow 7) (h 7 _ rfl) k x hx
  ·exact row_cells0 (l:=opRow 8) (h 8 _ rfl) k x hx
theorem toL_inj{x y:ByteArray}(h:x.toList=y.toList):x=y:=by
 rw[ByteArray.toList_eq,ByteArray.toList_eq] at h
 cases x;cases y
 congr 1
 exact Array.toList_inj.1 h
theorem opRow_len(i:Nat):(opRow i).length<=6:=by
 by_cases h:i<9
 ·have:i=0\/i=1\/i=2\/i=3\/i=4\/i=5\/i=6\/i=7\/i=8:=by omega
  rcases this with rfl|rfl|rfl|rfl|rfl|rfl|rfl|rfl|rfl <;> decide
 ·unfold opRow
  rw[z18z,List.getElem?_eq_none (by show 9<=i;omega)]
  simp
def LvR(s:ByteArray)(e:Ending):Prop:=(∃i k:Nat,i<9/\(opRow i)[k]? = some s/\e=.returned (.int .i64 (i:Nat)))\/((∀i,i<9->s ∉ opRow i)/\e=.returned (.int .i64 (-1)))
theorem level_c(s:ByteArray)(w:World):Calls prog 6 #[.string s] w λe w'=>LvR s e/\Below w.heap.size w w':=by
 have HT:=hid (lvT w)
 have hBel:Below w.heap.size w (z1z (z1z (z1z (z1z (z1z (z1z (z1z (z1z (z1z (z1z (w) (.cells #[.string ⟨#[111,114]⟩] 9)) (.cells #[.string ⟨#[97,110,100]⟩] 9)) (.cells #[.string ⟨#[61,61]⟩,.string ⟨#[33,61]⟩,.string ⟨#[60]⟩,.string ⟨#[60,61]⟩,.string ⟨#[62]⟩,.string ⟨#[62,61]⟩] 9)) (.cells #[.string ⟨#[124]⟩] 9)) (.cells #[.string ⟨#[94]⟩] 9)) (.cells #[.string ⟨#[38]⟩] 9)) (.cells #[.string ⟨#[60,60]⟩,.string ⟨#[62,62]⟩] 9)) (.cells #[.string ⟨#[43]⟩,.string ⟨#[45]⟩] 9)) (.cells #[.string ⟨#[42]⟩,.string ⟨#[47]⟩,.string ⟨#[47,47]⟩,.string ⟨#[37]⟩] 9)) (.cells #[.slice (some ⟨w.heap.size,0,none⟩) 1 1,.slice (some ⟨w.heap.size+1,0,none⟩) 1 1,.slice (some ⟨w.heap.size+2,0,none⟩) 6 6,.slice (some ⟨w.heap.size+3,0,none⟩) 1 1,.slice (some ⟨w.heap.size+4,0,none⟩) 1 1,.slice (some ⟨w.heap.size+5,0,none⟩) 1 1,.slice (some ⟨w.heap.size+6,0,none⟩) 2 2,.slice (some ⟨w.heap.size+7,0,none⟩) 2 2,.slice (some ⟨w.heap.size+8,0,none⟩) 4 4] 42)):=allocs_below [.cells #[.string ⟨#[111,114]⟩] 9,.cells #[.string ⟨#[97,110,100]⟩] 9,.cells #[.string ⟨#[61,61]⟩,.string ⟨#[33,61]⟩,.string ⟨#[60]⟩,.string ⟨#[60,61]⟩,.string ⟨#[62]⟩,.string ⟨#[62,61]⟩] 9,.cells #[.string ⟨#[124]⟩] 9,.cells #[.string ⟨#[94]⟩] 9,.cells #[.string ⟨#[38]⟩] 9,.cells #[.string ⟨#[60,60]⟩,.string ⟨#[62,62]⟩] 9,.cells #[.string ⟨#[43]⟩,.string ⟨#[45]⟩] 9,.cells #[.string ⟨#[42]⟩,.string ⟨#[47]⟩,.string ⟨#[47,47]⟩,.string ⟨#[37]⟩] 9,.cells #[.slice (some ⟨w.heap.size,0,none⟩) 1 1,.slice (some ⟨w.heap.size+1,0,none⟩) 1 1,.slice (some ⟨w.heap.size+2,0,none⟩) 6 6,.slice (some ⟨w.heap.size+3,0,none⟩) 1 1,.slice (some ⟨w.heap.size+4,0,none⟩) 1 1,.slice (some ⟨w.heap.size+5,0,none⟩) 1 1,.slice (some ⟨w.heap.size+6,0,none⟩) 2 2,.slice (some ⟨w.heap.size+7,0,none⟩) 2 2,.slice (some ⟨w.heap.size+8,0,none⟩) 4 4] 42] w
 go_enter func6,ntmps6
 go_upto_region 3 with fail
 generalize z1z (z1z (z1z (z1z (z1z (z1z (z1z (z1z (z1z (z1z (w) (.cells #[.string ⟨#[111,114]⟩] 9)) (.cells #[.string ⟨#[97,110,100]⟩] 9)) (.cells #[.string ⟨#[61,61]⟩,.string ⟨#[33,61]⟩,.string ⟨#[60]⟩,.string ⟨#[60,61]⟩,.string ⟨#[62]⟩,.string ⟨#[62,61]⟩] 9)) (.cells #[.string ⟨#[124]⟩] 9)) (.cells #[.string ⟨#[94]⟩] 9)) (.cells #[.string ⟨#[38]⟩] 9)) (.cells #[.string ⟨#[60,60]⟩,.string ⟨#[62,62]⟩] 9)) (.cells #[.string ⟨#[43]⟩,.string ⟨#[45]⟩] 9)) (.cells #[.string ⟨#[42]⟩,.string ⟨#[47]⟩,.string ⟨#[47,47]⟩,.string ⟨#[37]⟩] 9)) (.cells #[.slice (some ⟨w.heap.size,0,none⟩) 1 1,.slice (some ⟨w.heap.size+1,0,none⟩) 1 1,.slice (some ⟨w.heap.size+2,0,none⟩) 6 6,.slice (some ⟨w.heap.size+3,0,none⟩) 1 1,.slice (some ⟨w.heap.size+4,0,none⟩) 1 1,.slice (some ⟨w.heap.size+5,0,none⟩) 1 1,.slice (some ⟨w.heap.size+6,0,none⟩) 2 2,.slice (some ⟨w.heap.size+7,0,none⟩) 2 2,.slice (some ⟨w.heap.size+8,0,none⟩) 4 4] 42)=W at *
 have HB:=hid hBel
 clear hBel
 go_loopw [4,5] (λiv _ wr=>∃i:Nat,i<=9/\iv=.int .i64 (i:Nat)/\(∀i',i'<i->s ∉ opRow i')/\wr=W) (λiv _ _=>9-(intOf iv).toNat)
 case atStart=>exact⟨0,by omega,rfl,λi' h=>by omega,rfl⟩
 case round=>
  obtain⟨i,hi,rfl,hno,hw⟩:=hrel
  have hw':=hw.symm
  subst hw'
  clear hw
  by_cases hlt:i<9
  case neg=>
   have e:i=9:=by omega
   subst e
   have HNO:=hid hno
   clear hno
   go_wp2_with fail
   go_ret
   exact⟨.inr ⟨HNO.out,rfl⟩,HB.out⟩
  have j1:(i:Int)<9:=by omega
  have j2:(0:Int)<=i:=by omega
  have j3:z11z.wrap ((i:Int)+1)=((i+1:Nat):Int):=by rw[z12z];omega
  have c0:=HT.out.1 i hlt
  have cr:=λk x=>HT.out.2 i k x hlt
  have hrl:=opRow_len i
  have HC:=hid cr
  have HNO:=hid hno
  clear hno cr
  generalize hR:opRow i=R at *
  have HR:=hid hR
  clear hR
  go_upto_region 6 with fail
  go_loopw [5] (λkv wr'=>∃k:Nat,k<=R.length/\kv=.int .i64 (k:Nat)/\(∀k',k'<k->R[k']? ≠ some s)/\wr'=W) (λkv _=>R.length-(intOf kv).toNat)
  case atStart=>exact⟨0,by omega,rfl,λk' h=>by omega,rfl⟩
  case round=>
   obtain⟨k,hk,rfl,hnk,hw⟩:=hrel
   have hw':=hw.symm
   subst hw'
   clear hw
   by_cases hltk:k<R.length
   case neg=>
    have j4:¬ (k:Int)<R.length:=by omega
    have hni:s ∉ R:=by
     intro hm
     obtain⟨k',hk'⟩:=List.getElem?_of_mem hm
     exact hnk k' (by have:=(List.getElem?_eq_some_iff.1 hk').1;omega) hk'
    have HNI:=hid hni
    clear hni hnk
    go_wp2_with fail
    go_roundw
    case rel=>exact⟨i+1,by omega,by first|rfl|go_num,λi' h=>by
     rcases Nat.lt_or_ge i' i with g|g
     ·exact HNO.out i' g
     ·rw[show i'=i by omega,HR.out];exact HNI.out,trivial⟩
    case measure=>show 9-((i+1:Nat):Int).toNat<9-(i:Int).toNat;omega
   have j4:(k:Int)<R.length:=by omega
   have j5:(0:Int)<=k:=by omega
   have j6:z11z.wrap ((k:Int)+1)=((k+1:Nat):Int):=by rw[z12z];omega
   have hx:R[k]? = some R[k]:=z13z hltk
   have c1:=HC.out k _ hx
   have HX:=hid hx
   generalize R[k]=x at *
   have HNK:=hid hnk
   clear hnk hx
   cases hq:(x.toList==s.toList)
   ·have hne:¬x=s:=by
     rintro rfl
     simp at hq
    have HNE:=hid hne
    clear hne
    go_wp2_with fail
    go_roundw
    case rel=>exact⟨k+1,by omega,by first|rfl|go_num,λk' h=>by
     rcases Nat.lt_or_ge k' k with g|g
     ·exact HNK.out k' g
     ·rw[show k'=k by omega,HX.out]
      intro e
      exact HNE.out (Option.some.inj e),trivial⟩
    case measure=>show R.length-((k+1:Nat):Int).toNat<R.length-(k:Int).toNat;omega
   ·have hse:x=s:=toL_inj (by simpa using hq)
    have HSE:=hid hse
    clear hse
    go_wp2_with fail
    go_ret
    refine⟨.inl ⟨i,k,hlt,?_,rfl⟩,HB.out⟩
    rw[HR.out,HX.out,HSE.out]
theorem op_apart:((List.range 9).all λi=>(List.range 9).all λj=>(opT.getD i []).all λx=>(opT.getD j []).all λy=>!(x==y)||Nat.beq i j)=true:=by kernel_rfl
theorem opRow_mem{i:Nat}{s:ByteArray}(h:s ∈ opRow i):s.data.toList ∈ opT.getD i []:=by
 unfold opRow at h
 obtain⟨l,hl,rfl⟩:=List.mem_map.1 h
 simpa using hl
theorem op_same{i j:Nat}(hi:i<9)(hj:j<9){s:ByteArray}(h1:s ∈ opRow i)(h2:s ∈ opRow j):i=j:=by
 have h:=op_apart
 rw[z14z] at h
 have h:=h i (List.mem_range.2 hi)
 rw[z14z] at h
 have h:=h j (List.mem_range.2 hj)
 rw[z14z] at h
 have h:=h _ (opRow_mem h1)
 rw[z14z] at h
 have h:=h _ (opRow_mem h2)
 simp at h
 exact h
theorem level_ex(s:ByteArray):(∃i,i<9/\s ∈ opRow i/\∀w,Calls prog 6 #[.string s] w λe w'=>e=.returned (.int .i64 (i:Nat))/\Below w.heap.size w w')\/∀w,Calls prog 6 #[.string s] w λe w'=>e=.returned (.int .i64 (-1))/\Below w.heap.size w w':=by
 by_cases h:∃i,i<9/\s ∈ opRow i
 ·obtain⟨i,hi,hs⟩:=h
  refine .inl ⟨i,hi,hs,λw=>(level_c s w).mono ?_⟩
  rintro e w' ⟨⟨j,k,hj,hk,rfl⟩|⟨hn,rfl⟩,hB⟩
  ·rw[op_same hi hj hs (List.mem_of_getElem? hk)]
   exact⟨rfl,hB⟩
  ·exact absurd hs (hn i hi)
 ·refine .inr λw=>(level_c s w).mono ?_
  rintro e w' ⟨⟨j,k,hj,hk,rfl⟩|⟨hn,rfl⟩,hB⟩
  ·exact absurd ⟨j,hj,List.mem_of_getElem? hk⟩ h
  ·exact⟨rfl,hB⟩
theorem lv_at{i:Nat}{a:List UInt8}(hi:i<9)(ha:a ∈ opT.getD i []):lvAll i a=true/\a.length<=3:=by
 have:i=0\/i=1\/i=2\/i=3\/i=4\/i=5\/i=6\/i=7\/i=8:=by omega
 rcases this with rfl|rfl|rfl|rfl|rfl|rfl|rfl|rfl|rfl
 ·have h:a ∈ [[111,114]]:=ha
  simp only[z5z,z6z,or_false] at h
  rcases h with rfl
  ·exact⟨lv_0_0,by decide⟩
 ·have h:a ∈ [[97,110,100]]:=ha
  simp only[z5z,z6z,or_false] at h
  rcases h with rfl
  ·exact⟨lv_1_0,by decide⟩
 ·have h:a ∈ [[61,61],[33,61],[60],[60,61],[62],[62,61]]:=ha
  simp only[z5z,z6z,or_false] at h
  rcases h with rfl|rfl|rfl|rfl|rfl|rfl
  ·exact⟨lv_2_0,by decide⟩
  ·exact⟨lv_2_1,by decide⟩
  ·exact⟨lv_2_2,by decide⟩
  ·exact⟨lv_2_3,by decide⟩
  ·exact⟨lv_2_4,by decide⟩
  ·exact⟨lv_2_5,by decide⟩
 ·have h:a ∈ [[124]]:=ha
  simp only[z5z,z6z,or_false] at h
  rcases h with rfl
  ·exact⟨lv_3_0,by decide⟩
 ·have h:a ∈ [[94]]:=ha
  simp only[z5z,z6z,or_false] at h
  rcases h with rfl
  ·exact⟨lv_4_0,by decide⟩
 ·have h:a ∈ [[38]]:=ha
  simp only[z5z,z6z,or_false] at h
  rcases h with rfl
  ·exact⟨lv_5_0,by decide⟩
 ·have h:a ∈ [[60,60],[62,62]]:=ha
  simp only[z5z,z6z,or_false] at h
  rcases h with rfl|rfl
  ·exact⟨lv_6_0,by decide⟩
  ·exact⟨lv_6_1,by decide⟩
 ·have h:a ∈ [[43],[45]]:=ha
  simp only[z5z,z6z,or_false] at h
  rcases h with rfl|rfl
  ·exact⟨lv_7_0,by decide⟩
  ·exact⟨lv_7_1,by decide⟩
 ·have h:a ∈ [[42],[47],[47,47],[37]]:=ha
  simp only[z5z,z6z,or_false] at h
  rcases h with rfl|rfl|rfl|rfl
  ·exact⟨lv_8_0,by decide⟩
  ·exact⟨lv_8_1,by decide⟩
  ·exact⟨lv_8_2,by decide⟩
  ·exact⟨lv_8_3,by decide⟩
theorem lv_pair{i j:Nat}(hi:i<9)(hj:j<9){one two:ByteArray}(h1:one ∈ opRow i)(h2:two ∈ opRow j):lvB i j one.data.toList two.data.toList=true/\one.size<=3/\two.size<=3:=by
 obtain⟨ha,la⟩:=lv_at hi (opRow_mem h1)
 obtain⟨_,lb⟩:=lv_at hj (opRow_mem h2)
 refine⟨lvAll_at ha (r:=opT.getD j []) ?_ (opRow_mem h2),by simpa using la,by simpa using lb⟩
 rw[z18z,z13z (show j<opT.length from hj)]
 rfl
def PG(src:ByteArray)(L:List (Nd × Nat)):Prop:=∀w,Tabs w->MarksIn w->Calls prog 7 #[.string src] w λe w'=>∃g cap,e=.returned (.tuple #[.slice (some ⟨g,0,none⟩) L.length cap,.agg #[.int .i64 0,.int .i64 0]])/\Below w.heap.size w w'/\g<w'.heap.size/\NR w' (.slice (some ⟨g,0,none⟩) L.length cap) L
theorem pg_of(src:ByteArray)(hs:src.size<=1000000)(l:List UInt8)(hl:src.data.toList=l)(f:Fo)(s':Cs)(h:rdP l=some (.ok (f,s')))(h0:0<(rowF f).length)(h1:(rowF f).length<=1000):PG src (rowF f):=by
 intro w ht hm
 refine(parse_good src hs w ht hm (fo:=f) (s':=s') ⟨120,by rw[hl];exact h⟩).mono ?_
 rintro e w' ⟨r,rfl,hB,ho⟩
 have hn:=nr_of ho h0 (by omega)
 obtain⟨g,cap,rfl,_⟩:=id hn
 exact⟨g,cap,rfl,hB,(ho.lt g rfl).2,hn⟩
theorem pg_form:∀ (n:Nat) (l:Fo) (s:Cs) (fo:Fo) (s':Cs),P n (.pg l) s=some (.ok (fo,s'))->∃nd m,fo=Fo.one nd m
 | 0,l,s,fo,s',h=>by cases h
 | n+1,l,s,fo,s',h=>by
  have h:(lookM.bind λy=>if y.t.kind=7 then Pm.pure (Fo.one ⟨1,0,⟨#[]⟩,0,0⟩ l) else (P n (if fixedT y.t=k_let then .gl else .fu)).bind λx=>P n (.pg (l.app x))) s=some (.ok (fo,s')):=h
  rcases look_inv h with⟨e,_,h1⟩|⟨y,_,h1⟩
  ·cases h1
  ·split at h1
   ·have:=pure_inv h1
    cases this
    exact⟨_,_,rfl⟩
   ·rcases bind_inv h1 with⟨e,_,h2⟩|⟨x,s1,_,h2⟩
    ·cases h2
    ·exact pg_form n _ _ _ _ h2
theorem rd_pos{l:List UInt8}{f:Fo}{s':Cs}(h:rdP l=some (.ok (f,s'))):0<(rowF f).length:=by
 obtain⟨nd,m,rfl⟩:=pg_form 120 _ _ _ _ h
 simp[Fo.one,rowF]
def NX(W:World)(g n cap:Nat)(L:List (Nd × Nat)):Prop:=NR W (.slice (some ⟨g,0,none⟩) n cap) L/\g<W.heap.size
theorem NX.below{W W':World}{g n cap:Nat}{L:List (Nd × Nat)}(h:NX W g n cap L)(hB:Below W.heap.size W W'):NX W' g n cap L:=
 ⟨h.1.below hB (λk e=>by cases e;exact h.2),Nat.lt_of_lt_of_le h.2 hB.size⟩
theorem bare_x{W:World}{g n c g' n' c':Nat}{L M:List (Nd × Nat)}(h:NX W g n c L)(h':NX W g' n' c' M){b:Bool}(hb:bareP L M=b):Calls prog 9 #[.slice (some ⟨g,0,none⟩) n c,.slice (some ⟨g',0,none⟩) n' c'] W λe w'=>e=.returned (.bool b)/\Below W.heap.size W w':=by
 have:=bare_c W _ _ L M h.1 h'.1 (λk e=>by cases e;exact h.2) (λk e=>by cases e;exact h'.2)
 rwa [hb] at this
theorem levels_none(one two:ByteArray)(w:World)(h:(∀w,Calls prog 6 #[.string one] w λe w'=>e=.returned (.int .i64 (-1))/\Below w.heap.size w w')\/∀w,Calls prog 6 #[.string two] w λe w'=>e=.returned (.int .i64 (-1))/\Below w.heap.size w w'):Calls prog 3 #[.string one,.string two] w λe w'=>e=.returned (.bool true)/\Below w.heap.size w w':=by
 obtain⟨b1,c1,k1⟩:∃b:Int,(∀w,Calls prog 6 #[.string one] w λe w'=>e=.returned (.int .i64 b)/\Below w.heap.size w w')/\(b = -1\/0<=b):=by
  rcases level_ex one with⟨i,_,_,c⟩|c
  ·exact⟨_,c,.inr (by omega)⟩
  ·exact⟨_,c,.inl rfl⟩
 rcases h with c1'|c2
 ·obtain⟨b2,c2⟩:∃b:Int,∀w,Calls prog 6 #[.string two] w λe w'=>e=.returned (.int .i64 b)/\Below w.heap.size w w':=by
   rcases level_ex two with⟨i,_,_,c⟩|c
   ·exact⟨_,c⟩
   ·exact⟨_,c⟩
  clear c1 k1
  have c1:=c1'
  clear c1'
  go_enter func3,ntmps3
  go_wp2_with (go_at_call 6;first|((with_reducible refine(c1 _).mono ?_);rintro e w1 ⟨rfl,hB1⟩;(have HB1:=hid hB1);clear hB1 c1)|((with_reducible refine(c2 _).mono ?_);rintro e w2 ⟨rfl,hB2⟩;(have HB2:=hid (HB1.out.trans (hB2.mono HB1.out.size)));clear hB2 c2))
  go_ret
  exact⟨rfl,HB2.out⟩
 ·rcases k1 with rfl|k1
  ·go_enter func3,ntmps3
   go_wp2_with (go_at_call 6;first|((with_reducible refine(c1 _).mono ?_);rintro e w1 ⟨rfl,hB1⟩;(have HB1:=hid hB1);clear hB1 c1)|((with_reducible refine(c2 _).mono ?_);rintro e w2 ⟨rfl,hB2⟩;(have HB2:=hid (HB1.out.trans (hB2.mono HB1.out.size)));clear hB2 c2))
   go_ret
   exact⟨rfl,HB2.out⟩
  ·have k2:¬b1<0:=by omega
   go_enter func3,ntmps3
   go_wp2_with (go_at_call 6;first|((with_reducible refine(c1 _).mono ?_);rintro e w1 ⟨rfl,hB1⟩;(have HB1:=hid hB1);clear hB1 c1)|((with_reducible refine(c2 _).mono ?_);rintro e w2 ⟨rfl,hB2⟩;(have HB2:=hid (HB1.out.trans (hB2.mono HB1.out.size)));clear hB2 c2))
   go_ret
   exact⟨rfl,HB2.out⟩
theorem len5{a b c d e:ByteArray}(ha:a.size<=100)(hb:b.size<=100)(hc:c.size<=100)(hd:d.size<=100)(he:e.size<=100):(a++b++c++d++e).size<=1000000:=by
 simp only[ByteArray.size_append]
 omega
theorem levels_two(one two:ByteArray)(s1:one.size<=3)(s2:two.size<=3)(hE:lvE one.data.toList two.data.toList=true)(c1:∀w,Calls prog 6 #[.string one] w λe w'=>e=.returned (.int .i64 2)/\Below w.heap.size w w')(c2:∀w,Calls prog 6 #[.string two] w λe w'=>e=.returned (.int .i64 2)/\Below w.heap.size w w')(w:World)(ht:Tabs w)(hm:MarksIn w):Calls prog 3 #[.string one,.string two] w λe w'=>e=.returned (.bool true)/\Below w.heap.size w w':=by
 have hl1:one.data.toList.length=one.size:=by simp
 have p0:∀w,Tabs w->MarksIn w->Calls prog 7 #[.string (⟨#[102,110,32,102,40,120,44,32,121,44,32,122,41,32,123,32,114,101,116,117,114,110,32,120,32]⟩++one++⟨#[32,121,32]⟩++two++⟨#[32,122,59,32,125]⟩)] w λe w'=>e=.returned (.tuple #[.slice none 0 0,.agg #[.int .i64 70,.int .i64 (28+(one.size:Nat))]])/\Below w.heap.size w w':=by
  intro w ht hm
  unfold lvE at hE
  split at hE
  ·rename_i e he
   simp only[z10z,beq_iff_eq] at hE
   have:=parse_bad (⟨#[102,110,32,102,40,120,44,32,121,44,32,122,41,32,123,32,114,101,116,117,114,110,32,120,32]⟩++one++⟨#[32,121,32]⟩++two++⟨#[32,122,59,32,125]⟩) (len5 (by decide) (by omega) (by decide) (by omega) (by decide)) w ht hm (f:=e) ⟨120,by
    rw[<- he]
    unfold rdP lvS0
    simp only[ByteArray.data_append,z15z]⟩
   unfold fv at this
   rw[hE.1,hE.2,hl1] at this
   rw[show ((28+one.size:Nat):Int)=28+(one.size:Nat) by omega] at this
   exact this
  ·cases hE
 have z1:¬9223372036854775807<25+one.size:=by omega
 have z2:¬9223372036854775807<25+one.size+3:=by omega
 have z3:¬9223372036854775807<25+one.size+3+two.size:=by omega
 have z4:¬9223372036854775807<25+one.size+3+two.size+5:=by omega
 have y1:¬9223372036854775807<26+one.size:=by omega
 have y2:¬9223372036854775807<26+one.size+4:=by omega
 have y3:¬9223372036854775807<26+one.size+4+two.size:=by omega
 have y4:¬9223372036854775807<26+one.size+4+two.size+5:=by omega
 have x1:¬9223372036854775807<25+one.size+4:=by omega
 have x2:¬9223372036854775807<25+one.size+4+two.size:=by omega
 have x3:¬9223372036854775807<25+one.size+4+two.size+6:=by omega
 have j1:z11z.wrap (25+(one.size:Int))=25+(one.size:Int):=by rw[z12z];omega
 have j2:z11z.wrap (25+(one.size:Int)+3)=28+(one.size:Int):=by rw[z12z];omega
 have HT:=hid ht
 have HM:=hid hm
 clear ht hm hE hl1
 go_enter func3,ntmps3
 go_wp2_with (first|(go_at_call 6;first|((with_reducible refine(c1 _).mono ?_);rintro e w1 ⟨rfl,hB1⟩;(have HB1:=hid hB1);clear hB1 c1)|((with_reducible refine(c2 _).mono ?_);rintro e w2 ⟨rfl,hB2⟩;(have HB2:=hid (HB1.out.trans (hB2.mono HB1.out.size)));clear hB2 c2))|(go_at_call 7;(with_reducible refine(p0 _ (HT.out.below HB2.out) (HM.out.below HB2.out)).mono ?_);rintro e w3 ⟨rfl,hB3⟩;(have h3:=HB2.out.trans (hB3.mono HB2.out.size));(have HB3:=hid (h3.alloc h3.size (.cells #[.int .i64 70,.int .i64 (28+(one.size:Nat))] 26)));clear hB3 h3 p0)|(go_at_call 8;(with_reducible refine(awake12_c _ (HT.out.below HB3.out) (HM.out.below HB3.out)).mono ?_);rintro e w6 ⟨rfl,hB6⟩;(have HB6:=hid (HB3.out.trans (hB6.mono HB3.out.size)));clear hB6))
 go_ret
 exact⟨rfl,HB6.out⟩
theorem levels_geq(one two:ByteArray)(i j:Nat)(s1:one.size<=3)(s2:two.size<=3)(hno:(((i:Nat):Int)==2)=false\/(((i:Nat):Int)==2)=true/\(((j:Nat):Int)==2)=false)(hij:(j:Int)<=i)(L M K:List (Nd × Nat))(p0:PG (⟨#[102,110,32,102,40,120,44,32,121,44,32,122,41,32,123,32,114,101,116,117,114,110,32,120,32]⟩++one++⟨#[32,121,32]⟩++two++⟨#[32,122,59,32,125]⟩) L)(p1:PG (⟨#[102,110,32,102,40,120,44,32,121,44,32,122,41,32,123,32,114,101,116,117,114,110,32,40,120,32]⟩++one++⟨#[32,121,41,32]⟩++two++⟨#[32,122,59,32,125]⟩) M)(p2:PG (⟨#[102,110,32,102,40,120,44,32,121,44,32,122,41,32,123,32,114,101,116,117,114,110,32,120,32]⟩++one++⟨#[32,40,121,32]⟩++two++⟨#[32,122,41,59,32,125]⟩) K)(hL:bareP L M=true)(hR:bareP L K=false)(c1:∀w,Calls prog 6 #[.string one] w λe w'=>e=.returned (.int .i64 (i:Nat))/\Below w.heap.size w w')(c2:∀w,Calls prog 6 #[.string two] w λe w'=>e=.returned (.int .i64 (j:Nat))/\Below w.heap.size w w')(w:World)(ht:Tabs w)(hm:MarksIn w):Calls prog 3 #[.string one,.string two] w λe w'=>e=.returned (.bool true)/\Below w.heap.size w w':=by
 have z1:¬9223372036854775807<25+one.size:=by omega
 have z2:¬9223372036854775807<25+one.size+3:=by omega
 have z3:¬9223372036854775807<25+one.size+3+two.size:=by omega
 have z4:¬9223372036854775807<25+one.size+3+two.size+5:=by omega
 have y1:¬9223372036854775807<26+one.size:=by omega
 have y2:¬9223372036854775807<26+one.size+4:=by omega
 have y3:¬9223372036854775807<26+one.size+4+two.size:=by omega
 have y4:¬9223372036854775807<26+one.size+4+two.size+5:=by omega
 have x1:¬9223372036854775807<25+one.size+4:=by omega
 have x2:¬9223372036854775807<25+one.size+4+two.size:=by omega
 have x3:¬9223372036854775807<25+one.size+4+two.size+6:=by omega
 have j1:¬ ((i:Nat):Int)<0:=by omega
 have j2:¬ ((j:Nat):Int)<0:=by omega
 have j3:((i:Nat):Int)≥(j:Nat):=by omega
 have HT:=hid ht
 have HM:=hid hm
 have HL:=hid hL
 have HR:=hid hR
 clear ht hm hL hR hij
 unfold PG at p0 p1 p2
 generalize L.length=nL at *
 generalize M.length=nM at *
 generalize K.length=nK at *
 rcases hno with k1|⟨k1,k2⟩
 all_goals
  go_enter func3,ntmps3
  go_wp2_with (first|(go_at_call 6;first|((with_reducible refine(c1 _).mono ?_);rintro e w1 ⟨rfl,hB1⟩;(have HB1:=hid hB1);clear hB1 c1)|((with_reducible refine(c2 _).mono ?_);rintro e w2 ⟨rfl,hB2⟩;(have HB2:=hid (HB1.out.trans (hB2.mono HB1.out.size)));clear hB2 c2))|(go_at_call 7;(with_reducible refine(p0 _ (HT.out.below HB2.out) (HM.out.below HB2.out)).mono ?_);rintro e w3 ⟨g0,cap0,rfl,hB0,hg0,hn0⟩;(have b0:Below w3.heap.size w3 (w3.alloc (.cells #[.int .i64 0,.int .i64 0] 26)):=(z2z _ w3).alloc (z3z _) _);(have h0:=HB2.out.trans (hB0.mono HB2.out.size));(have HP0:=hid (h0.trans (b0.mono h0.size)));(have HN0:=hid (NX.below (show NX w3 g0 _ cap0 _ from⟨hn0,hg0⟩) b0));(have HF0:=hid (z4z w3 (.cells #[.int .i64 0,.int .i64 0] 26)));  clear hn0 hg0 h0 b0 p0 hB0)|(go_at_call 7;(with_reducible refine(p1 _ (HT.out.below HP0.out) (HM.out.below HP0.out)).mono ?_);rintro e w4 ⟨g1,cap1,rfl,hB1,hg1,hn1⟩;(have b1:Below w4.heap.size w4 (w4.alloc (.cells #[.int .i64 0,.int .i64 0] 26)):=(z2z _ w4).alloc (z3z _) _);(have h1:=HP0.out.trans (hB1.mono HP0.out.size));(have HP1:=hid (h1.trans (b1.mono h1.size)));(have HN1:=hid (NX.below (show NX w4 g1 _ cap1 _ from⟨hn1,hg1⟩) b1));(have HF1:=hid (z4z w4 (.cells #[.int .i64 0,.int .i64 0] 26)));(have HQ1:=hid (hB1.trans (b1.mono hB1.size)));clear hn1 hg1 h1 b1 p1 hB1)|(go_at_call 7;(with_reducible refine(p2 _ (HT.out.below HP1.out) (HM.out.below HP1.out)).mono ?_);rintro e w5 ⟨g2,cap2,rfl,hB2,hg2,hn2⟩;(have b2:Below w5.heap.size w5 (w5.alloc (.cells #[.int .i64 0,.int .i64 0] 26)):=(z2z _ w5).alloc (z3z _) _);(have h2:=HP1.out.trans (hB2.mono HP1.out.size));(have HP2:=hid (h2.trans (b2.mono h2.size)));(have HN2:=hid (NX.below (show NX w5 g2 _ cap2 _ from⟨hn2,hg2⟩) b2));(have HF2:=hid (z4z w5 (.cells #[.int .i64 0,.int .i64 0] 26)));(have HQ2:=hid (hB2.trans (b2.mono hB2.size)));(have f0:=row_keepX (row_keepX HF0.out HQ1.out) HQ2.out);(have f1:=row_keepX HF1.out HQ2.out);(have f2:=HF2.out);(have d0:=row_cellsX f0 0);(have d1:=row_cellsX f1 0);(have d2:=row_cellsX f2 0);simp only[List.getElem?_toArray,List.getElem?_cons_zero] at d0 d1 d2;(have n0:=(HN0.out.below HQ1.out).below HQ2.out);(have n1:=HN1.out.below HQ2.out);(have n2:=HN2.out);(have cL:=λw' hB=>bare_x (W:=w') (n0.below hB) (n1.below hB) HL.out);(have cR:=λw' hB=>bare_x (W:=w') (n0.below hB) (n2.below hB) HR.out);clear f0 f1 f2 n0 n1 n2;clear hn2 hg2 h2 b2 p2 hB2)|(go_at_call 9;first|((with_reducible refine(cL _ (z2z _ _)).mono ?_);rintro e w6 ⟨rfl,hB6⟩;(have HB6:=hid hB6);clear cL hB6)|((with_reducible refine(cR _ HB6.out).mono ?_);rintro e w7 ⟨rfl,hB7⟩;(have HB7:=hid (HB6.out.trans (hB7.mono HB6.out.size)));(have HB8:=hid (HP2.out.trans (HB7.out.mono HP2.out.size)));clear hB7 cR))|(go_at_call 8;(with_reducible refine(awake12_c _ (HT.out.below HB8.out) (HM.out.below HB8.out)).mono ?_);rintro e w9 ⟨rfl,hB9⟩;(have HB9:=hid (HB8.out.trans (hB9.mono HB8.out.size)));clear hB9))
  go_ret
  exact⟨rfl,HB9.out⟩
theorem levels_lt(one two:ByteArray)(i j:Nat)(s1:one.size<=3)(s2:two.size<=3)(hno:(((i:Nat):Int)==2)=false\/(((i:Nat):Int)==2)=true/\(((j:Nat):Int)==2)=false)(hij:¬ (j:Int)<=i)(L M K:List (Nd × Nat))(p0:PG (⟨#[102,110,32,102,40,120,44,32,121,44,32,122,41,32,123,32,114,101,116,117,114,110,32,120,32]⟩++one++⟨#[32,121,32]⟩++two++⟨#[32,122,59,32,125]⟩) L)(p1:PG (⟨#[102,110,32,102,40,120,44,32,121,44,32,122,41,32,123,32,114,101,116,117,114,110,32,40,120,32]⟩++one++⟨#[32,121,41,32]⟩++two++⟨#[32,122,59,32,125]⟩) M)(p2:PG (⟨#[102,110,32,102,40,120,44,32,121,44,32,122,41,32,123,32,114,101,116,117,114,110,32,120,32]⟩++one++⟨#[32,40,121,32]⟩++two++⟨#[32,122,41,59,32,125]⟩) K)(hL:bareP L M=false)(hR:bareP L K=true)(c1:∀w,Calls prog 6 #[.string one] w λe w'=>e=.returned (.int .i64 (i:Nat))/\Below w.heap.size w w')(c2:∀w,Calls prog 6 #[.string two] w λe w'=>e=.returned (.int .i64 (j:Nat))/\Below w.heap.size w w')(w:World)(ht:Tabs w)(hm:MarksIn w):Calls prog 3 #[.string one,.string two] w λe w'=>e=.returned (.bool true)/\Below w.heap.size w w':=by
 have z1:¬9223372036854775807<25+one.size:=by omega
 have z2:¬9223372036854775807<25+one.size+3:=by omega
 have z3:¬9223372036854775807<25+one.size+3+two.size:=by omega
 have z4:¬9223372036854775807<25+one.size+3+two.size+5:=by omega
 have y1:¬9223372036854775807<26+one.size:=by omega
 have y2:¬9223372036854775807<26+one.size+4:=by omega
 have y3:¬9223372036854775807<26+one.size+4+two.size:=by omega
 have y4:¬9223372036854775807<26+one.size+4+two.size+5:=by omega
 have x1:¬9223372036854775807<25+one.size+4:=by omega
 have x2:¬9223372036854775807<25+one.size+4+two.size:=by omega
 have x3:¬9223372036854775807<25+one.size+4+two.size+6:=by omega
 have j1:¬ ((i:Nat):Int)<0:=by omega
 have j2:¬ ((j:Nat):Int)<0:=by omega
 have j3:¬ ((i:Nat):Int)≥(j:Nat):=by omega
 have HT:=hid ht
 have HM:=hid hm
 have HL:=hid hL
 have HR:=hid hR
 clear ht hm hL hR hij
 unfold PG at p0 p1 p2
 generalize L.length=nL at *
 generalize M.length=nM at *
 generalize K.length=nK at *
 rcases hno with k1|⟨k1,k2⟩
 all_goals
  go_enter func3,ntmps3
  go_wp2_with (first|(go_at_call 6;first|((with_reducible refine(c1 _).mono ?_);rintro e w1 ⟨rfl,hB1⟩;(have HB1:=hid hB1);clear hB1 c1)|((with_reducible refine(c2 _).mono ?_);rintro e w2 ⟨rfl,hB2⟩;(have HB2:=hid (HB1.out.trans (hB2.mono HB1.out.size)));clear hB2 c2))|(go_at_call 7;(with_reducible refine(p0 _ (HT.out.below HB2.out) (HM.out.below HB2.out)).mono ?_);rintro e w3 ⟨g0,cap0,rfl,hB0,hg0,hn0⟩;(have b0:Below w3.heap.size w3 (w3.alloc (.cells #[.int .i64 0,.int .i64 0] 26)):=(z2z _ w3).alloc (z3z _) _);(have h0:=HB2.out.trans (hB0.mono HB2.out.size));(have HP0:=hid (h0.trans (b0.mono h0.size)));(have HN0:=hid (NX.below (show NX w3 g0 _ cap0 _ from⟨hn0,hg0⟩) b0));(have HF0:=hid (z4z w3 (.cells #[.int .i64 0,.int .i64 0] 26)));  clear hn0 hg0 h0 b0 p0 hB0)|(go_at_call 7;(with_reducible refine(p1 _ (HT.out.below HP0.out) (HM.out.below HP0.out)).mono ?_);rintro e w4 ⟨g1,cap1,rfl,hB1,hg1,hn1⟩;(have b1:Below w4.heap.size w4 (w4.alloc (.cells #[.int .i64 0,.int .i64 0] 26)):=(z2z _ w4).alloc (z3z _) _);(have h1:=HP0.out.trans (hB1.mono HP0.out.size));(have HP1:=hid (h1.trans (b1.mono h1.size)));(have HN1:=hid (NX.below (show NX w4 g1 _ cap1 _ from⟨hn1,hg1⟩) b1));(have HF1:=hid (z4z w4 (.cells #[.int .i64 0,.int .i64 0] 26)));(have HQ1:=hid (hB1.trans (b1.mono hB1.size)));clear hn1 hg1 h1 b1 p1 hB1)|(go_at_call 7;(with_reducible refine(p2 _ (HT.out.below HP1.out) (HM.out.below HP1.out)).mono ?_);rintro e w5 ⟨g2,cap2,rfl,hB2,hg2,hn2⟩;(have b2:Below w5.heap.size w5 (w5.alloc (.cells #[.int .i64 0,.int .i64 0] 26)):=(z2z _ w5).alloc (z3z _) _);(have h2:=HP1.out.trans (hB2.mono HP1.out.size));(have HP2:=hid (h2.trans (b2.mono h2.size)));(have HN2:=hid (NX.below (show NX w5 g2 _ cap2 _ from⟨hn2,hg2⟩) b2));(have HF2:=hid (z4z w5 (.cells #[.int .i64 0,.int .i64 0] 26)));(have HQ2:=hid (hB2.trans (b2.mono hB2.size)));(have f0:=row_keepX (row_keepX HF0.out HQ1.out) HQ2.out);(have f1:=row_keepX HF1.out HQ2.out);(have f2:=HF2.out);(have d0:=row_cellsX f0 0);(have d1:=row_cellsX f1 0);(have d2:=row_cellsX f2 0);simp only[List.getElem?_toArray,List.getElem?_cons_zero] at d0 d1 d2;(have n0:=(HN0.out.below HQ1.out).below HQ2.out);(have n1:=HN1.out.below HQ2.out);(have n2:=HN2.out);(have cL:=λw' hB=>bare_x (W:=w') (n0.below hB) (n1.below hB) HL.out);(have cR:=λw' hB=>bare_x (W:=w') (n0.below hB) (n2.below hB) HR.out);clear f0 f1 f2 n0 n1 n2;clear hn2 hg2 h2 b2 p2 hB2)|(go_at_call 9;first|((with_reducible refine(cR _ (z2z _ _)).mono ?_);rintro e w6 ⟨rfl,hB6⟩;(have HB6:=hid hB6);clear cR hB6)|((with_reducible refine(cL _ HB6.out).mono ?_);rintro e w7 ⟨rfl,hB7⟩;(have HB7:=hid (HB6.out.trans (hB7.mono HB6.out.size)));(have HB8:=hid (HP2.out.trans (HB7.out.mono HP2.out.size)));clear hB7 cL))|(go_at_call 8;(with_reducible refine(awake12_c _ (HT.out.below HB8.out) (HM.out.below HB8.out)).mono ?_);rintro e w9 ⟨rfl,hB9⟩;(have HB9:=hid (HB8.out.trans (hB9.mono HB8.out.size)));clear hB9))
  go_ret
  exact⟨rfl,HB9.out⟩
theorem lv_rest{i j:Nat}{one two:ByteArray}(s1:one.size<=3)(s2:two.size<=3)(h:lvR i j one.data.toList two.data.toList=true):∃L M K,PG (⟨#[102,110,32,102,40,120,44,32,121,44,32,122,41,32,123,32,114,101,116,117,114,110,32,120,32]⟩++one++⟨#[32,121,32]⟩++two++⟨#[32,122,59,32,125]⟩) L/\PG (⟨#[102,110,32,102,40,120,44,32,121,44,32,122,41,32,123,32,114,101,116,117,114,110,32,40,120,32]⟩++one++⟨#[32,121,41,32]⟩++two++⟨#[32,122,59,32,125]⟩) M/\PG (⟨#[102,110,32,102,40,120,44,32,121,44,32,122,41,32,123,32,114,101,116,117,114,110,32,120,32]⟩++one++⟨#[32,40,121,32]⟩++two++⟨#[32,122,41,59,32,125]⟩) K/\((j<=i/\bareP L M=true/\bareP L K=false)\/(¬j<=i/\bareP L M=false/\bareP L K=true)):=by
 unfold lvR at h
 split at h
 ·rename_i f sf g sg k sk hf hg hk
  simp only[z10z,Nat.ble_eq] at h
  obtain⟨⟨⟨l1,l2⟩,l3⟩,h⟩:=h
  refine⟨rowF f,rowF g,rowF k,pg_of _ (len5 (by decide) (by omega) (by decide) (by omega) (by decide)) (lvS0 one.data.toList two.data.toList) (by unfold lvS0;simp only[ByteArray.data_append,z15z]) f sf hf (rd_pos hf) l1,pg_of _ (len5 (by decide) (by omega) (by decide) (by omega) (by decide)) (lvS1 one.data.toList two.data.toList) (by unfold lvS1;simp only[ByteArray.data_append,z15z]) g sg hg (rd_pos hg) l2,pg_of _ (len5 (by decide) (by omega) (by decide) (by omega) (by decide)) (lvS2 one.data.toList two.data.toList) (by unfold lvS2;simp only[ByteArray.data_append,z15z]) k sk hk (rd_pos hk) l3,?_⟩
  split at h
  ·rename_i hij
   simp only[z10z,Bool.not_eq_true'] at h
   exact .inl ⟨by simpa using hij,h.1,h.2⟩
  ·rename_i hij
   simp only[z10z,Bool.not_eq_true'] at h
   exact .inr ⟨by simpa using hij,h.2,h.1⟩
 ·cases h
end Go.Proofs.YteffljnjmcjdfaaGreatDoor.W.Tr
namespace Go.Proofs.YteffljnjmcjdfaaGreatDoor.W
set_option linter.unusedVariables false
open Go.ChangeShapes Go.WideShapes Go.RowKit Go.Shelf
theorem treeLevels_walk(one two:ByteArray)(w0:one.size<=maxLen)(w1:two.size<=maxLen)(w:World)(ht:Tabs w)(hm:MarksIn w):Calls prog 3 #[.string one,.string two] w λe w'=>e=.returned (.bool true)/\Below w.heap.size w w':=by
 rcases Tr.level_ex one with⟨i,hi,h1,c1⟩|c1
 case inr=>exact Tr.levels_none one two w (.inl c1)
 rcases Tr.level_ex two with⟨j,hj,h2,c2⟩|c2
 case inr=>exact Tr.levels_none one two w (.inr c2)
 obtain⟨hB,s1,s2⟩:=Tr.lv_pair hi hj h1 h2
 unfold Tr.lvB at hB
 split at hB
 ·rename_i h22
  simp only[z10z] at h22
  obtain rfl:=z16z h22.1
  obtain rfl:=z16z h22.2
  exact Tr.levels_two one two s1 s2 hB c1 c2 w ht hm
 ·rename_i h22
  have hno:(((i:Nat):Int)==2)=false\/(((i:Nat):Int)==2)=true/\(((j:Nat):Int)==2)=false:=by
   by_cases e1:i=2
   ·by_cases e2:j=2
    ·subst e1 e2;exact absurd rfl h22
    ·exact .inr ⟨by rw[e1];rfl,by have h9:¬ ((j:Nat):Int)=2:=(by omega);simpa using h9⟩
   ·exact .inl (by have h9:¬ ((i:Nat):Int)=2:=(by omega);simpa using h9)
  obtain⟨L,M,K,p0,p1,p2,hR⟩:=Tr.lv_rest s1 s2 hB
  rcases hR with⟨g,a,b⟩|⟨g,a,b⟩
  ·exact Tr.levels_geq one two i j s1 s2 hno (by omega) L M K p0 p1 p2 a b c1 c2 w ht hm
  ·exact Tr.levels_lt one two i j s1 s2 hno (by omega) L M K p0 p1 p2 a b c1 c2 w ht hm
end Go.Proofs.YteffljnjmcjdfaaGreatDoor.W

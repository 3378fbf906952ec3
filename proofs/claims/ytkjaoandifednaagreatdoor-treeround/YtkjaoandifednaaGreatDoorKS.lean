import Derived.Test.YtkjaoandifednaaGreatDoorKA
import Derived.Test.YtkjaoandifednaaGreatDoorKD
open List renaming getElem_toArray → zx1, getElem_cons_zero → zx2, getElem_cons_succ → zx3, setIfInBounds_toArray → zx4, set_cons_zero → zx5, set_cons_succ → zx6
namespace Go.Proofs.YtkjaoandifednaaGreatDoor.W.Tr
set_option linter.unusedVariables false
def ndB (p q:Nd × Nat):Bool:=(p.1.kind == q.1.kind) && Nat.beq p.2 q.2 && (p.1.text.data.toList == q.1.text.data.toList) && (p.1.int == q.1.int) && (p.1.bits == q.1.bits)
def bareP:List (Nd × Nat)→List (Nd × Nat)→Bool
 | [],[]=>true
 | p :: L,q :: M=>ndB p q && bareP L M
 | _,_=>false
open Go.ChangeShapes Go.WideShapes Go.RowKit Go.Shelf
set_option linter.unusedSimpArgs false
def zN:Nd × Nat:=(⟨0,0,⟨#[]⟩,0,0⟩,0)
def put6 (W:World) (b:Nat) (x:Nd × Nat):World:=World.setCell (World.setCell (World.setCell (World.setCell (World.setCell (World.setCell (W) ⟨b,0,none⟩ (.int .i64 x.1.kind)) ⟨b,1,none⟩ (.int .i64 x.1.a)) ⟨b,2,none⟩ (.int .i64 (x.2:Nat))) ⟨b,3,none⟩ (.string x.1.text)) ⟨b,4,none⟩ (.int .i64 x.1.int)) ⟨b,5,none⟩ (.int .u64 x.1.bits)
theorem put6_far (W:World) (b:Nat) (x:Nd × Nat) (k:Nat) (h:k ≠ b):(put6 W b x).heap[k]? = W.heap[k]?:=by
 unfold put6
 rw [Below.heap_setCell _ _ _ _ h,Below.heap_setCell _ _ _ _ h,Below.heap_setCell _ _ _ _ h,Below.heap_setCell _ _ _ _ h,Below.heap_setCell _ _ _ _ h,Below.heap_setCell _ _ _ _ h]
theorem put6_own {W:World} {b:Nat} {p:Nd × Nat} (h:W.heap[b]? = some (.cells (nda p) 44 (0,0))) (x:Nd × Nat):(put6 W b x).heap[b]? = some (.cells (nda x) 44 (0,0)):=by
 have h0:W.heap[b]? = some (.cells [Value.int .i64 p.1.kind,.int .i64 p.1.a,.int .i64 (p.2:Nat),.string p.1.text,.int .i64 p.1.int,.int .u64 p.1.bits].toArray 44 (0,0)):=h
 exact heap_setX (heap_setX (heap_setX (heap_setX (heap_setX (heap_setX h0 0 _) 1 _) 2 _) 3 _) 4 _) 5 _
theorem put6_below {W0 W:World} {b:Nat} (h:Below W0.heap.size W0 W) (hb:W0.heap.size≤b) (x:Nd × Nat):Below W0.heap.size W0 (put6 W b x):=
 (((((h.setCell (p:=⟨b,0,none⟩) hb _).setCell (p:=⟨b,1,none⟩) hb _).setCell (p:=⟨b,2,none⟩) hb _).setCell (p:=⟨b,3,none⟩) hb _).setCell (p:=⟨b,4,none⟩) hb _).setCell (p:=⟨b,5,none⟩) hb _
structure Bn (W0 W:World) (xb yb:Nat) (x y:Nd × Nat):Prop where
 bel:Below W0.heap.size W0 W
 ne:xb ≠ yb
 gx:W0.heap.size≤xb
 gy:W0.heap.size≤yb
 fx:W.heap[xb]? = some (.cells (nda x) 44 (0,0))
 fy:W.heap[yb]? = some (.cells (nda y) 44 (0,0))
section
variable {W0 W:World} {xb yb:Nat} {x y:Nd × Nat}
theorem Bn.swap (h:Bn W0 W xb yb x y):Bn W0 W yb xb y x:=⟨h.bel,fun e=>h.ne e.symm,h.gy,h.gx,h.fy,h.fx⟩
theorem Bn.putx (h:Bn W0 W xb yb x y) (x':Nd × Nat):Bn W0 (put6 W xb x') xb yb x' y:=
 ⟨put6_below h.bel h.gx _,h.ne,h.gx,h.gy,put6_own h.fx _,(put6_far W xb x' yb (fun e=>h.ne e.symm)).trans h.fy⟩
theorem Bn.puty (h:Bn W0 W xb yb x y) (y':Nd × Nat):Bn W0 (put6 W yb y') xb yb x y':=(h.swap.putx y').swap
def noA (p:Nd × Nat):Nd × Nat:=(⟨p.1.kind,0,p.1.text,p.1.int,p.1.bits⟩,p.2)
theorem Bn.setx (h:Bn W0 W xb yb x y):Bn W0 (W.setCell ⟨xb,1,none⟩ (.int .i64 0)) xb yb (noA x) y:=by
 have f:W.heap[xb]? = some (.cells [Value.int .i64 x.1.kind,.int .i64 x.1.a,.int .i64 (x.2:Nat),.string x.1.text,.int .i64 x.1.int,.int .u64 x.1.bits].toArray 44 (0,0)):=h.fx
 exact ⟨h.bel.setCell (p:=⟨xb,1,none⟩) h.gx _,h.ne,h.gx,h.gy,heap_setX f 1 _,(Below.heap_setCell _ _ _ _ (fun e=>h.ne e.symm)).trans h.fy⟩
theorem Bn.sety (h:Bn W0 W xb yb x y):Bn W0 (W.setCell ⟨yb,1,none⟩ (.int .i64 0)) xb yb x (noA y):=h.swap.setx.swap
def Six (W:World) (b:Nat) (x:Nd × Nat):Prop:=W.cell? ⟨b,0,none⟩=some (.int .i64 x.1.kind)∧W.cell? ⟨b,1,none⟩=some (.int .i64 x.1.a)∧W.cell? ⟨b,2,none⟩=some (.int .i64 (x.2:Nat))∧W.cell? ⟨b,3,none⟩=some (.string x.1.text)∧W.cell? ⟨b,4,none⟩=some (.int .i64 x.1.int)∧W.cell? ⟨b,5,none⟩=some (.int .u64 x.1.bits)∧∀ j,W.frozen? ⟨b,j,none⟩=false
theorem Bn.cx (h:Bn W0 W xb yb x y):Six W xb x:=by
 have c:=row_cellsX h.fx
 exact ⟨c 0,c 1,c 2,c 3,c 4,c 5,row_thawX h.fx⟩
theorem Bn.cy (h:Bn W0 W xb yb x y):Six W yb y:=h.swap.cx
theorem bn_next {Wa:World} (hB:Below W.heap.size W Wa) (f:Wa.heap[W.heap.size]? = some (.cells #[.int .i64 0,.int .i64 0,.int .i64 0,.string ⟨#[]⟩,.int .i64 0,.int .u64 0] 44 (0,0))):Bn W (Wa.alloc (.cells #[.int .i64 0,.int .i64 0,.int .i64 0,.string ⟨#[]⟩,.int .i64 0,.int .u64 0] 44)) W.heap.size Wa.heap.size zN zN:=by
 have hl:=(Array.getElem?_eq_some_iff.1 f).1
 exact ⟨hB.alloc hB.size _,by omega,Nat.le_refl _,hB.size,(Below.heap_alloc _ _ _ hl).trans f,World.alloc_heap_new Wa _⟩
end
def nq (p q:Nd × Nat):Bool:=(p.1.kind == q.1.kind) && (((p.2:Nat):Int) == (q.2:Nat)) && (p.1.text.toList == q.1.text.toList) && (p.1.int == q.1.int) && (p.1.bits == q.1.bits)
theorem nq_nd (p q:Nd × Nat):nq p q=ndB p q:=by
 unfold nq ndB
 have e1:(((p.2:Nat):Int) == (q.2:Nat))=Nat.beq p.2 q.2:=by
  by_cases h:p.2=q.2
  ·rw [h];simp
  ·have h1:Nat.beq p.2 q.2=false:=by
    cases hb:Nat.beq p.2 q.2
    ·rfl
    ·exact absurd (Nat.eq_of_beq_eq_true hb) h
   rw [h1]
   have:¬ ((p.2:Nat):Int)=(q.2:Nat):=by omega
   simpa using this
 rw [e1,ByteArray.toList_eq,ByteArray.toList_eq]
def Six6 (W:World) (g i:Nat) (p:Nd × Nat):Prop:=W.cell? ⟨g,i * 6,none⟩=some (.int .i64 p.1.kind)∧W.cell? ⟨g,i * 6 + 1,none⟩=some (.int .i64 p.1.a)∧W.cell? ⟨g,i * 6 + 2,none⟩=some (.int .i64 (p.2:Nat))∧W.cell? ⟨g,i * 6 + 3,none⟩=some (.string p.1.text)∧W.cell? ⟨g,i * 6 + 4,none⟩=some (.int .i64 p.1.int)∧W.cell? ⟨g,i * 6 + 5,none⟩=some (.int .u64 p.1.bits)
theorem nr_cells' {W:World} {gl lc n:Nat} {L:List (Nd × Nat)} (h:NR W (.slice (some ⟨gl,0,none⟩) n lc) L) (i:Nat) (p:Nd × Nat) (hp:L[i]? = some p):Six6 W gl i p:=by
 obtain ⟨g,cap,e,h1,h2⟩:=h
 simp only [Value.slice.injEq,Option.some.injEq,Addr.mk.injEq,true_and,and_true] at e
 obtain ⟨rfl,_,rfl⟩:=e
 exact ⟨h2 i p hp 0 (by omega),h2 i p hp 1 (by omega),h2 i p hp 2 (by omega),h2 i p hp 3 (by omega),h2 i p hp 4 (by omega),h2 i p hp 5 (by omega)⟩
theorem neq_run (x y:Nd × Nat) (w:World):(binOp .neq 44 (.agg #[.int .i64 x.1.kind,.int .i64 0,.int .i64 (x.2:Nat),.string x.1.text,.int .i64 x.1.int,.int .u64 x.1.bits]) (.agg #[.int .i64 y.1.kind,.int .i64 0,.int .i64 (y.2:Nat),.string y.1.text,.int .i64 y.1.int,.int .u64 y.1.bits])).run Tryz.prog w=.ok (.bool (!nq x y)) w:=by
 unfold nq
 cases h1:x.1.kind == y.1.kind <;> cases h2:((x.2:Nat):Int) == (y.2:Nat) <;> cases h3:x.1.text.toList == y.1.text.toList <;> cases h4:x.1.int == y.1.int <;> cases h5:x.1.bits == y.1.bits <;> simp [go_sem,h1,h2,h3,h4,h5]
theorem neq_guard (x y:Nd × Nat) (o p:Operand) (w:World):(eqGuard .neq 44 o p (.agg #[.int .i64 x.1.kind,.int .i64 0,.int .i64 (x.2:Nat),.string x.1.text,.int .i64 x.1.int,.int .u64 x.1.bits]) (.agg #[.int .i64 y.1.kind,.int .i64 0,.int .i64 (y.2:Nat),.string y.1.text,.int .i64 y.1.int,.int .u64 y.1.bits])).run Tryz.prog w=.ok () w:=run_eqGuard_agg w .neq _ o p _ _ (by kernel_rfl)
def nqP (x y:Nd × Nat):Prop:=x.1.kind=y.1.kind∧((x.2:Nat):Int)=(y.2:Nat)∧x.1.text.toList=y.1.text.toList∧x.1.int=y.1.int∧x.1.bits=y.1.bits
theorem nq_true {x y:Nd × Nat} (h:nqP x y):nq x y=true:=by
 obtain ⟨a,b,c,d,e⟩:=h
 unfold nq
 simp only [a,b,c,d,e,beq_self_eq_true,Bool.and_self]
theorem nq_false {x y:Nd × Nat} (h:¬ nqP x y):nq x y=false:=by
 cases hq:nq x y
 ·rfl
 ·exfalso
  apply h
  unfold nq at hq
  simp only [Bool.and_eq_true,beq_iff_eq] at hq
  exact ⟨hq.1.1.1.1,hq.1.1.1.2,hq.1.1.2,hq.1.2,hq.2⟩
set_option maxRecDepth 100000 in
set_option maxHeartbeats 4000000 in
theorem bare_c (w:World) (va vb:Value) (L M:List (Nd × Nat)) (hL:NR w va L) (hM:NR w vb M) (ha:∀ k,va.ownBlock=some k→k < w.heap.size) (hb:∀ k,vb.ownBlock=some k→k < w.heap.size):Calls Tryz.prog 11 #[va,vb] w fun e w'=>e=.returned (.bool (bareP L M))∧Below w.heap.size w w':=by
  obtain ⟨ga,ca,rfl,la,-⟩:=id hL
  obtain ⟨gb,cb,rfl,lb,-⟩:=id hM
  by_cases hlen:L.length=M.length
  case neg=>
    have hR:bareP L M=false:=by
      clear hL hM ha hb la lb
      induction L generalizing M with
      | nil=>cases M with
        | nil=>exact absurd rfl hlen
        | cons q M=>rfl
      | cons p L ih=>cases M with
        | nil=>rfl
        | cons q M=>
          unfold bareP
          rw [ih M (fun e=>hlen (by simp [e]))]
          simp
    rw [hR]
    have hn:((L.length:Int) == (M.length:Int))=false:=by
      have:¬ (L.length:Int)=(M.length:Int):=by omega
      simpa using this
    have hn2:((L.length:Int) != (M.length:Int))=true:=by simp [bne,hn]
    clear hL hM ha hb hR hlen
    go_enter Tryz.func11,Tryz.ntmps11
    go_wp2_with fail
    go_ret
    exact ⟨rfl,Below.refl _ _⟩
  obtain ⟨R,hR⟩:∃ R,bareP L M=R:=⟨_,rfl⟩
  rw [hR]
  have HL:=hid hL
  have HM:=hid hM
  have HA:=hid ha
  have HB:=hid hb
  rw [← hlen]
  have HLEN:=hid hlen
  clear hL hM ha hb hlen
  go_enter Tryz.func11,Tryz.ntmps11
  go_upto_region 4 with fail
  go_loopw [5,6,7] (fun iv _ _ wr=>∃ i:Nat,i≤L.length∧iv=.int .i64 (i:Nat)∧bareP (L.drop i) (M.drop i)=R∧Below w.heap.size w wr) (fun iv _ _ _=>L.length - (intOf iv).toNat)
  case atStart=>exact ⟨0,Nat.zero_le _,rfl,by simpa using hR,Below.refl _ _⟩
  case round=>
    obtain ⟨i,hi,rfl,hRi,hB⟩:=hrel
    have hlen:=HLEN.out
    clear hR
    by_cases hlt:i < L.length
    case neg=>
      have e:i=L.length:=by omega
      have j1:¬ (i:Int) < L.length:=by omega
      rw [List.drop_of_length_le (by omega),List.drop_of_length_le (by omega)] at hRi
      have hRt:R=true:=by rw [← hRi];rfl
      subst hRt
      have HBB:=hid hB
      clear hB hRi e hlen
      go_wp2_with fail
      go_ret
      exact ⟨rfl,HBB.out⟩
    have j1:(i:Int) < L.length:=by omega
    have j2:(0:Int)≤i:=by omega
    have j3:IntKind.i64.wrap ((i:Int) + 1)=((i + 1:Nat):Int):=by rw [IntKind.wrap_i64];omega
    have hx:L[i]? = some L[i]:=List.getElem?_eq_getElem hlt
    have hy:M[i]? = some (M[i]'(by omega)):=List.getElem?_eq_getElem (by omega)
    have hRi2:(ndB L[i] (M[i]'(by omega)) && bareP (L.drop (i + 1)) (M.drop (i + 1)))=R:=by
      rw [← hRi,List.drop_eq_getElem_cons hlt,List.drop_eq_getElem_cons (by omega:i < M.length)]
      rfl
    generalize L[i]=x at *
    generalize (M[i]'(by omega))=y at *
    have CC:Hid (∀ w',Below wr.heap.size wr w'→Six6 w' ga i x∧Six6 w' gb i y):=by
      intro w' hB'
      have hB2:=hB.trans (hB'.mono hB.size)
      have n1:=HL.out.below hB2 HA.out
      have n2:=HM.out.below hB2 HB.out
      exact ⟨nr_cells n1 i x hx,nr_cells' n2 i y hy⟩
    have HRi:=hid hRi2
    have HBB:=hid hB
    have er:=neq_run
    have eg:=neq_guard
    clear hRi hRi2 hB hx hy hlen
    go_upto_region 6 with fail
    refine wp_region_held_drew (S:=fun w'=>Below wr.heap.size wr w') (by kernel_rfl) (Below.refl _ wr).drew ?_
    intro hS
    (refine wpAnyH_take (i:=0) (v:=?_) rfl (by kernel_rfl) (by kernel_rfl) (by kernel_rfl) (fun _ _ _ h=>h) (Or.inl ⟨by rfl,?_⟩) hS ?_);rotate_left;(focus (intro w' hSw;obtain ⟨⟨c0,c1,c2,c3,c4,c5⟩,⟨d0,d1,d2,d3,d4,d5⟩⟩:=CC.out w' hSw;go_simp;(try with_reducible rfl)));(try simp only [Act.put,zx1,zx2,zx3,zx4,zx5,zx6])
    (refine wpAnyH_take (i:=1) (v:=?_) rfl (by kernel_rfl) (by kernel_rfl) (by kernel_rfl) (fun _ _ _ h=>h) (Or.inl ⟨by rfl,?_⟩) hS ?_);rotate_left;(focus (intro w' hSw;obtain ⟨⟨c0,c1,c2,c3,c4,c5⟩,⟨d0,d1,d2,d3,d4,d5⟩⟩:=CC.out w' hSw;go_simp;(try with_reducible rfl)));(try simp only [Act.put,zx1,zx2,zx3,zx4,zx5,zx6])
    (refine wpAnyH_take (i:=2) (v:=?_) rfl (by kernel_rfl) (by kernel_rfl) (by kernel_rfl) (fun _ _ _ h=>h) (Or.inl ⟨by rfl,?_⟩) hS ?_);rotate_left;(focus (intro w' hSw;obtain ⟨⟨c0,c1,c2,c3,c4,c5⟩,⟨d0,d1,d2,d3,d4,d5⟩⟩:=CC.out w' hSw;go_simp;(try with_reducible rfl)));(try simp only [Act.put,zx1,zx2,zx3,zx4,zx5,zx6])
    (refine wpAnyH_take (i:=3) (v:=?_) rfl (by kernel_rfl) (by kernel_rfl) (by kernel_rfl) (fun _ _ _ h=>h) (Or.inl ⟨by rfl,?_⟩) hS ?_);rotate_left;(focus (intro w' hSw;obtain ⟨⟨c0,c1,c2,c3,c4,c5⟩,⟨d0,d1,d2,d3,d4,d5⟩⟩:=CC.out w' hSw;go_simp;(try with_reducible rfl)));(try simp only [Act.put,zx1,zx2,zx3,zx4,zx5,zx6])
    (refine wpAnyH_take (i:=4) (v:=?_) rfl (by kernel_rfl) (by kernel_rfl) (by kernel_rfl) (fun _ _ _ h=>h) (Or.inl ⟨by rfl,?_⟩) hS ?_);rotate_left;(focus (intro w' hSw;obtain ⟨⟨c0,c1,c2,c3,c4,c5⟩,⟨d0,d1,d2,d3,d4,d5⟩⟩:=CC.out w' hSw;go_simp;(try with_reducible rfl)));(try simp only [Act.put,zx1,zx2,zx3,zx4,zx5,zx6])
    (refine wpAnyH_take (i:=5) (v:=?_) rfl (by kernel_rfl) (by kernel_rfl) (by kernel_rfl) (fun _ _ _ h=>h) (Or.inl ⟨by rfl,?_⟩) hS ?_);rotate_left;(focus (intro w' hSw;obtain ⟨⟨c0,c1,c2,c3,c4,c5⟩,⟨d0,d1,d2,d3,d4,d5⟩⟩:=CC.out w' hSw;go_simp;(try with_reducible rfl)));(try simp only [Act.put,zx1,zx2,zx3,zx4,zx5,zx6])
    (refine wpAnyH_take (i:=6) (v:=?_) rfl (by kernel_rfl) (by kernel_rfl) (by kernel_rfl) (fun _ _ _ h=>h) (Or.inl ⟨by rfl,?_⟩) hS ?_);rotate_left;(focus (intro w' hSw;obtain ⟨⟨c0,c1,c2,c3,c4,c5⟩,⟨d0,d1,d2,d3,d4,d5⟩⟩:=CC.out w' hSw;go_simp;(try with_reducible rfl)));(try simp only [Act.put,zx1,zx2,zx3,zx4,zx5,zx6])
    (refine wpAnyH_take (i:=7) (v:=?_) rfl (by kernel_rfl) (by kernel_rfl) (by kernel_rfl) (fun _ _ _ h=>h) (Or.inl ⟨by rfl,?_⟩) hS ?_);rotate_left;(focus (intro w' hSw;obtain ⟨⟨c0,c1,c2,c3,c4,c5⟩,⟨d0,d1,d2,d3,d4,d5⟩⟩:=CC.out w' hSw;go_simp;(try with_reducible rfl)));(try simp only [Act.put,zx1,zx2,zx3,zx4,zx5,zx6])
    refine wpAnyH_ready (rs:=[8,9]) (by kernel_rfl) (by simp) ?_
    refine AllReadyH.cons rfl (fun K hK=>?_) (AllReadyH.cons rfl (fun K hK=>?_) AllReadyH.nil)
    · go_simp
      have za:Below wr.heap.size wr (wr.alloc (.cells #[.int .i64 0,.int .i64 0,.int .i64 0,.string ⟨#[]⟩,.int .i64 0,.int .u64 0] 44)).drew:=((Below.refl _ wr).alloc (Nat.le_refl _) _).drew
      have zb:(wr.alloc (.cells #[.int .i64 0,.int .i64 0,.int .i64 0,.string ⟨#[]⟩,.int .i64 0,.int .u64 0] 44)).drew.heap[wr.heap.size]? = some (.cells #[.int .i64 0,.int .i64 0,.int .i64 0,.string ⟨#[]⟩,.int .i64 0,.int .u64 0] 44 (0,0)):=World.alloc_heap_new wr _
      generalize (wr.alloc (.cells #[.int .i64 0,.int .i64 0,.int .i64 0,.string ⟨#[]⟩,.int .i64 0,.int .u64 0] 44)).drew=Wa at *
      refine hK.out _ _ za (fun _=>?_)
      clear hK K
      (try simp only [Act.put,zx1,zx2,zx3,zx4,zx5,zx6])
      refine wpAnyH_ready (rs:=[9]) (by kernel_rfl) (by simp) ?_
      refine AllReadyH.cons rfl (fun K hK=>?_) AllReadyH.nil
      go_simp
      have bx:=bn_next za zb
      generalize Wa.alloc (.cells #[.int .i64 0,.int .i64 0,.int .i64 0,.string ⟨#[]⟩,.int .i64 0,.int .u64 0] 44)=Wb at *
      refine hK.out _ _ bx.bel (fun _=>?_)
      clear hK K za zb
      (try simp only [Act.put,zx1,zx2,zx3,zx4,zx5,zx6])
      have B1:=hid bx
      obtain ⟨p0,p1,p2,p3,p4,p5,pz⟩:=bx.cx
      simp only [zN] at p0 p1 p2 p3 p4 p5
      clear bx
      refine wpAnyH_ready (rs:=[10]) (by kernel_rfl) (by simp) ?_
      refine AllReadyH.cons rfl (fun K hK=>?_) AllReadyH.nil
      go_simp
      have b2:=B1.out.putx x
      unfold put6 at b2
      generalize World.setCell (World.setCell (World.setCell (World.setCell (World.setCell (World.setCell (Wb) ⟨wr.heap.size,0,none⟩ (.int .i64 x.1.kind)) ⟨wr.heap.size,1,none⟩ (.int .i64 x.1.a)) ⟨wr.heap.size,2,none⟩ (.int .i64 (x.2:Nat))) ⟨wr.heap.size,3,none⟩ (.string x.1.text)) ⟨wr.heap.size,4,none⟩ (.int .i64 x.1.int)) ⟨wr.heap.size,5,none⟩ (.int .u64 x.1.bits)=Wc at *
      refine hK.out _ _ b2.bel (fun _=>?_)
      clear hK K p0 p1 p2 p3 p4 p5 pz B1
      (try simp only [Act.put,zx1,zx2,zx3,zx4,zx5,zx6])
      have B2:=hid b2
      obtain ⟨p0,p1,p2,p3,p4,p5,pz⟩:=b2.cy
      simp only [zN] at p0 p1 p2 p3 p4 p5
      clear b2
      refine wpAnyH_ready (rs:=[11]) (by kernel_rfl) (by simp) ?_
      refine AllReadyH.cons rfl (fun K hK=>?_) AllReadyH.nil
      go_simp
      have b3:=B2.out.puty y
      unfold put6 at b3
      generalize World.setCell (World.setCell (World.setCell (World.setCell (World.setCell (World.setCell (Wc) ⟨Wa.heap.size,0,none⟩ (.int .i64 y.1.kind)) ⟨Wa.heap.size,1,none⟩ (.int .i64 y.1.a)) ⟨Wa.heap.size,2,none⟩ (.int .i64 (y.2:Nat))) ⟨Wa.heap.size,3,none⟩ (.string y.1.text)) ⟨Wa.heap.size,4,none⟩ (.int .i64 y.1.int)) ⟨Wa.heap.size,5,none⟩ (.int .u64 y.1.bits)=Wd at *
      refine hK.out _ _ b3.bel (fun _=>?_)
      clear hK K p0 p1 p2 p3 p4 p5 pz B2
      (try simp only [Act.put,zx1,zx2,zx3,zx4,zx5,zx6])
      refine wpAnyH_done (by kernel_rfl) ?_ _
      have b4:=b3.setx
      have b5:=b4.sety
      have nxy:=b3.ne
      have nyx:Wa.heap.size ≠ wr.heap.size:=fun e=>nxy e.symm
      obtain ⟨p0,p1,p2,p3,p4,p5,pz⟩:=b3.cx
      obtain ⟨q0,q1,q2,q3,q4,q5,qz⟩:=b4.cy
      obtain ⟨r0,r1,r2,r3,r4,r5,rz⟩:=b5.cx
      obtain ⟨s0,s1,s2,s3,s4,s5,sz⟩:=b5.cy
      simp only [noA] at r0 r1 r2 r3 r4 r5 s0 s1 s2 s3 s4 s5
      have HB5:=hid (HBB.out.trans (b5.bel.mono HBB.out.size))
      clear b3 b4 b5 hS
      go_upto_region 8 with fail
      generalize World.setCell (World.setCell Wd _ _) _ _=We at *
      clear p0 p1 p2 p3 p4 p5 pz q0 q1 q2 q3 q4 q5 qz rz sz
      rw [← nq_nd] at HRi
      clear er eg
      go_wp2_with fail
      all_goals first
        | (go_ret
           have hq:nq x y=false:=nq_false (by rintro ⟨a,b,c,d,e⟩;contradiction)
           have hRf:R=false:=by rw [← HRi.out,hq];rfl
           rw [hRf]
           exact ⟨rfl,HB5.out⟩)
        | (have hq:nq x y=true:=nq_true ⟨by assumption,by assumption,by assumption,by assumption,by assumption⟩
           have HR2:Hid (bareP (L.drop (i + 1)) (M.drop (i + 1))=R):=hid (by rw [← HRi.out,hq];rfl)
           go_roundw
           case rel=>exact ⟨i + 1,by omega,rfl,HR2.out,HB5.out⟩
           case measure=>show L.length - ((i + 1:Nat):Int).toNat < L.length - (i:Int).toNat;omega)
    · go_simp
      have za:Below wr.heap.size wr (wr.alloc (.cells #[.int .i64 0,.int .i64 0,.int .i64 0,.string ⟨#[]⟩,.int .i64 0,.int .u64 0] 44)).drew:=((Below.refl _ wr).alloc (Nat.le_refl _) _).drew
      have zb:(wr.alloc (.cells #[.int .i64 0,.int .i64 0,.int .i64 0,.string ⟨#[]⟩,.int .i64 0,.int .u64 0] 44)).drew.heap[wr.heap.size]? = some (.cells #[.int .i64 0,.int .i64 0,.int .i64 0,.string ⟨#[]⟩,.int .i64 0,.int .u64 0] 44 (0,0)):=World.alloc_heap_new wr _
      generalize (wr.alloc (.cells #[.int .i64 0,.int .i64 0,.int .i64 0,.string ⟨#[]⟩,.int .i64 0,.int .u64 0] 44)).drew=Wa at *
      refine hK.out _ _ za (fun _=>?_)
      clear hK K
      (try simp only [Act.put,zx1,zx2,zx3,zx4,zx5,zx6])
      refine wpAnyH_ready (rs:=[8]) (by kernel_rfl) (by simp) ?_
      refine AllReadyH.cons rfl (fun K hK=>?_) AllReadyH.nil
      go_simp
      have bx:=bn_next za zb
      generalize Wa.alloc (.cells #[.int .i64 0,.int .i64 0,.int .i64 0,.string ⟨#[]⟩,.int .i64 0,.int .u64 0] 44)=Wb at *
      refine hK.out _ _ bx.bel (fun _=>?_)
      clear hK K za zb
      (try simp only [Act.put,zx1,zx2,zx3,zx4,zx5,zx6])
      replace bx:=bx.swap
      have B1:=hid bx
      obtain ⟨p0,p1,p2,p3,p4,p5,pz⟩:=bx.cx
      simp only [zN] at p0 p1 p2 p3 p4 p5
      clear bx
      refine wpAnyH_ready (rs:=[10]) (by kernel_rfl) (by simp) ?_
      refine AllReadyH.cons rfl (fun K hK=>?_) AllReadyH.nil
      go_simp
      have b2:=B1.out.putx x
      unfold put6 at b2
      generalize World.setCell (World.setCell (World.setCell (World.setCell (World.setCell (World.setCell (Wb) ⟨Wa.heap.size,0,none⟩ (.int .i64 x.1.kind)) ⟨Wa.heap.size,1,none⟩ (.int .i64 x.1.a)) ⟨Wa.heap.size,2,none⟩ (.int .i64 (x.2:Nat))) ⟨Wa.heap.size,3,none⟩ (.string x.1.text)) ⟨Wa.heap.size,4,none⟩ (.int .i64 x.1.int)) ⟨Wa.heap.size,5,none⟩ (.int .u64 x.1.bits)=Wc at *
      refine hK.out _ _ b2.bel (fun _=>?_)
      clear hK K p0 p1 p2 p3 p4 p5 pz B1
      (try simp only [Act.put,zx1,zx2,zx3,zx4,zx5,zx6])
      have B2:=hid b2
      obtain ⟨p0,p1,p2,p3,p4,p5,pz⟩:=b2.cy
      simp only [zN] at p0 p1 p2 p3 p4 p5
      clear b2
      refine wpAnyH_ready (rs:=[11]) (by kernel_rfl) (by simp) ?_
      refine AllReadyH.cons rfl (fun K hK=>?_) AllReadyH.nil
      go_simp
      have b3:=B2.out.puty y
      unfold put6 at b3
      generalize World.setCell (World.setCell (World.setCell (World.setCell (World.setCell (World.setCell (Wc) ⟨wr.heap.size,0,none⟩ (.int .i64 y.1.kind)) ⟨wr.heap.size,1,none⟩ (.int .i64 y.1.a)) ⟨wr.heap.size,2,none⟩ (.int .i64 (y.2:Nat))) ⟨wr.heap.size,3,none⟩ (.string y.1.text)) ⟨wr.heap.size,4,none⟩ (.int .i64 y.1.int)) ⟨wr.heap.size,5,none⟩ (.int .u64 y.1.bits)=Wd at *
      refine hK.out _ _ b3.bel (fun _=>?_)
      clear hK K p0 p1 p2 p3 p4 p5 pz B2
      (try simp only [Act.put,zx1,zx2,zx3,zx4,zx5,zx6])
      refine wpAnyH_done (by kernel_rfl) ?_ _
      have b4:=b3.setx
      have b5:=b4.sety
      have nxy:=b3.ne
      have nyx:wr.heap.size ≠ Wa.heap.size:=fun e=>nxy e.symm
      obtain ⟨p0,p1,p2,p3,p4,p5,pz⟩:=b3.cx
      obtain ⟨q0,q1,q2,q3,q4,q5,qz⟩:=b4.cy
      obtain ⟨r0,r1,r2,r3,r4,r5,rz⟩:=b5.cx
      obtain ⟨s0,s1,s2,s3,s4,s5,sz⟩:=b5.cy
      simp only [noA] at r0 r1 r2 r3 r4 r5 s0 s1 s2 s3 s4 s5
      have HB5:=hid (HBB.out.trans (b5.bel.mono HBB.out.size))
      clear b3 b4 b5 hS
      go_upto_region 8 with fail
      generalize World.setCell (World.setCell Wd _ _) _ _=We at *
      clear p0 p1 p2 p3 p4 p5 pz q0 q1 q2 q3 q4 q5 qz rz sz
      rw [← nq_nd] at HRi
      clear er eg
      go_wp2_with fail
      all_goals first
        | (go_ret
           have hq:nq x y=false:=nq_false (by rintro ⟨a,b,c,d,e⟩;contradiction)
           have hRf:R=false:=by rw [← HRi.out,hq];rfl
           rw [hRf]
           exact ⟨rfl,HB5.out⟩)
        | (have hq:nq x y=true:=nq_true ⟨by assumption,by assumption,by assumption,by assumption,by assumption⟩
           have HR2:Hid (bareP (L.drop (i + 1)) (M.drop (i + 1))=R):=hid (by rw [← HRi.out,hq];rfl)
           go_roundw
           case rel=>exact ⟨i + 1,by omega,rfl,HR2.out,HB5.out⟩
           case measure=>show L.length - ((i + 1:Nat):Int).toNat < L.length - (i:Int).toNat;omega)
end Go.Proofs.YtkjaoandifednaaGreatDoor.W.Tr

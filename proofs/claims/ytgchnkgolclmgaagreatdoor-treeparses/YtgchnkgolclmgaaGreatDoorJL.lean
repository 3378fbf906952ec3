import Derived.Test.YtgchnkgolclmgaaGreatDoorJK
open Array renaming getElem?_eq_some_iff → dI
open Nat renaming le_refl → aH
open Go.World renaming alloc_heap_new → ay, size_alloc → bY, block_lt_of_cell? → gL
open Go.RowKit.Below renaming refl → aL, heap_setCell → bO
open Go.IntKind renaming i64 → gI, wrap_i64 → dR
open Go.Lib renaming containsS → dQ, containsS_iff → eU
open And renaming intro → aY
open Go.Proofs.Tryz
set_option maxRecDepth 1000000
set_option maxHeartbeats 8000000
namespace Go.Proofs.YtgchnkgolclmgaaGreatDoor.W.Tr
open Go.ChangeShapes Go.WideShapes Go.RowKit Go.Shelf
set_option linter.unusedVariables false
set_option linter.unusedSimpArgs false
theorem lM{S:Nat->Prop}{a w:World}{gb:Nat}(h:It.bL S a w)(hg:It.Nx S a w gb)(v0 v1 v2 v3 v4:Value):It.bL S a (((((w.setCell ⟨gb,0,none⟩ v0).setCell ⟨gb,1,none⟩ v1).setCell ⟨gb,2,none⟩ v2).setCell ⟨gb,3,none⟩ v3).setCell ⟨gb,4,none⟩ v4):=
 ((((h.setCell (p:=⟨gb,0,none⟩) hg v0).setCell (p:=⟨gb,1,none⟩) (hg.on (by simp)) v1).setCell (p:=⟨gb,2,none⟩) (hg.on (by simp)) v2).setCell (p:=⟨gb,3,none⟩) (hg.on (by simp)) v3).setCell (p:=⟨gb,4,none⟩) (hg.on (by simp)) v4
theorem iV{w:World}{gb k:Nat}(hk:¬k=gb)(v0 v1 v2 v3 v4:Value):(((((w.setCell ⟨gb,0,none⟩ v0).setCell ⟨gb,1,none⟩ v1).setCell ⟨gb,2,none⟩ v2).setCell ⟨gb,3,none⟩ v3).setCell ⟨gb,4,none⟩ v4).heap[k]? = w.heap[k]?:=by
 rw[bO _ _ _ _ hk,bO _ _ _ _ hk,bO _ _ _ _ hk,bO _ _ _ _ hk,bO _ _ _ _ hk]
structure Gm (W W2:World) (cb nt:Nat) (v:Value) (b1 b2 i o t1 t2:Int) (tok:Array Value):Prop where
 top:W2.heap[cb]? = some (.cells #[v,.int .i64 b1,.int .i64 b2,.int .i64 i,.int .i64 o,.int .i64 t1,.int .i64 t2] 53 (0,0))
 upd:It.bL (λk=>k=cb) W W2
 res:W2.heap[W.heap.size]? = some (.cells #[.int .i64 0,.int .i64 0,.string ⟨#[]⟩,.int .i64 0,.int .u64 0] 36 (0,0))
 tok:W2.heap[nt]? = some (.cells tok 36 (0,0))
section
variable {W W2 w3:World} {cb nt:Nat} {v:Value} {b1 b2 i o t1 t2:Int} {tok:Array Value}
theorem Gm.below(h:Gm W W2 cb nt v b1 b2 i o t1 t2 tok)(hB:Below W2.heap.size W2 w3):Gm W w3 cb nt v b1 b2 i o t1 t2 tok:=
 ⟨aF h.top hB,h.upd.trans' (It.bL.of_below hB),aF h.res hB,aF h.tok hB⟩
theorem Gm.Ut(h:Gm W W2 cb nt v b1 b2 i o t1 t2 tok)(hc:cb<W.heap.size)(hn:nt≠cb)(o':Int):Gm W (W2.setCell ⟨cb,4,none⟩ (.int .i64 o')) cb nt v b1 b2 i o' t1 t2 tok:=
 ⟨aM (c:=[v,.int .i64 b1,.int .i64 b2,.int .i64 i,.int .i64 o,.int .i64 t1,.int .i64 t2]) h.top 4 (.int .i64 o'),h.upd.setCell (p:=⟨cb,4,none⟩) (.inl rfl) _,(bO _ _ _ _ (by show W.heap.size≠cb;omega)).trans h.res,(bO _ _ _ _ (by show nt≠cb;omega)).trans h.tok⟩
theorem Gm.aAE(h:Gm W W2 cb nt v b1 b2 i o t1 t2 tok)(hc:cb<W.heap.size)(hn:nt≠cb)(i':Int):Gm W (W2.setCell ⟨cb,3,none⟩ (.int .i64 i')) cb nt v b1 b2 i' o t1 t2 tok:=
 ⟨aM (c:=[v,.int .i64 b1,.int .i64 b2,.int .i64 i,.int .i64 o,.int .i64 t1,.int .i64 t2]) h.top 3 (.int .i64 i'),h.upd.setCell (p:=⟨cb,3,none⟩) (.inl rfl) _,(bO _ _ _ _ (by show W.heap.size≠cb;omega)).trans h.res,(bO _ _ _ _ (by show nt≠cb;omega)).trans h.tok⟩
end
theorem Hf(W:World)(cb:Nat)(v:Value)(b1 b2 i o t1 t2:Int)(y:Yd)(p q:Bool)(hp:dx y.t=p)(hq:eP y.t=q)(hc:W.heap[cb]? = some (.cells #[v,.int .i64 b1,.int .i64 b2,.int .i64 i,.int .i64 o,.int .i64 t1,.int .i64 t2] 53 (0,0)))(o1 o2:Int)(ho1:o1=if p=true then o+1 else o)(ho2:o2=if q=true then o1-1 else o1)(w1:gI.wrap (o+1)=o+1)(w2:gI.wrap (o1-1)=o1-1)(w3:gI.wrap (i+1)=i+1)
  (cl:∀w1,Below W.heap.size W w1->Calls prog 29 #[.pointer (some ⟨cb,0,none⟩)] w1 λe w'=>e=.returned (tv y.t y.a)/\Below w1.heap.size w1 w') :
  Calls prog 82 #[.pointer (some ⟨cb,0,none⟩)] W λe w'=>e=.returned (tv y.t y.a)/\It.bL (λk=>k=cb) W w'/\w'.heap[cb]? = some (.cells #[v,.int .i64 b1,.int .i64 b2,.int .i64 (i+1),.int .i64 o2,.int .i64 t1,.int .i64 t2] 53 (0,0)):=by
 have co:=GU y.t y.a
 have cx:=Mv y.t y.a
 rw[hp] at co
 rw[hq] at cx
 have hl:cb<W.heap.size:=(dI.1 hc).1
 have HC:=hid hc
 obtain⟨⟨yk,yt,yi,yb⟩,ya,yc,yf⟩:=y
 unfold tv at *
 dsimp only at *
 clear hp hq hc
 go_enter func82,ntmps82
 go_upto_region 2 with(go_at_call 29;(with_reducible refine(cl _ ((aL _ W).alloc (aH _) _)).mono ?_);rintro e w4 ⟨rfl,b4⟩;clear cl)
 have T2:Gm W (w4.alloc (.cells #[.int .i64 yk,.int .i64 ya,.string yt,.int .i64 yi,.int .u64 yb] 36)) cb w4.heap.size v b1 b2 i o t1 t2 #[.int .i64 yk,.int .i64 ya,.string yt,.int .i64 yi,.int .u64 yb]:=by
  have bA:Below W.heap.size W (W.alloc (.cells #[.int .i64 0,.int .i64 0,.string ⟨#[]⟩,.int .i64 0,.int .u64 0] 36)):=(aL _ W).alloc (aH _) _
  have bB:Below w4.heap.size w4 (w4.alloc (.cells #[.int .i64 yk,.int .i64 ya,.string yt,.int .i64 yi,.int .u64 yb] 36)):=(aL _ _).alloc (aH _) _
  have z4:=b4.size
  rw[bY] at z4
  have bW:Below W.heap.size W w4:=bA.trans (b4.mono bA.size)
  refine⟨aF (aF HC.out bW) bB,It.bL.of_below (bW.trans (bB.mono bW.size)),aF (aF (ay W _) b4) bB,ay w4 _⟩
 have hnt:cb<w4.heap.size:=by have z4:=b4.size;rw[bY] at z4;omega
 have hne:W.heap.size<w4.heap.size:=by have z4:=b4.size;rw[bY] at z4;omega
 generalize w4.alloc (.cells #[.int .i64 yk,.int .i64 ya,.string yt,.int .i64 yi,.int .u64 yb] 36)=W2 at *
 generalize w4.heap.size=nt at *
 clear b4
 have x0:W2.cell? ⟨nt,0,none⟩=some (.int .i64 yk):=aA T2.tok 0
 have x1:W2.cell? ⟨nt,1,none⟩=some (.int .i64 ya):=aA T2.tok 1
 have x2:W2.cell? ⟨nt,2,none⟩=some (.string yt):=aA T2.tok 2
 have x3:W2.cell? ⟨nt,3,none⟩=some (.int .i64 yi):=aA T2.tok 3
 have x4:W2.cell? ⟨nt,4,none⟩=some (.int .u64 yb):=aA T2.tok 4
 have T2':=hid T2
 clear T2
 have u1:¬nt=cb:=by omega
 have u2:¬cb=nt:=by omega
 have u3:¬W.heap.size=cb:=by omega
 have u4:¬cb=W.heap.size:=by omega
 have u5:¬W.heap.size=nt:=by omega
 have u6:¬nt=W.heap.size:=by omega
 cases p
 all_goals (
  go_upto_region 4 with(go_at_call 47;(with_reducible refine(co _).mono ?_);rintro e w5 ⟨rfl,b5⟩;clear co x0 x1 x2 x3 x4;(have T3:=T2'.out.below b5);(have c4:w5.cell? ⟨cb,4,none⟩=some (.int .i64 o):=aA T3.top 4);(have z4:=aC T3.top 4);(have T3':=hid T3);clear T3 b5))
 all_goals (first
  | ((have T4:Gm W w5 cb nt v b1 b2 i o1 t1 t2 #[.int .i64 yk,.int .i64 ya,.string yt,.int .i64 yi,.int .u64 yb]:=(by rw[ho1];exact T3'.out));(have T4':=hid T4);clear T4 c4 z4 T3' T2' ho1;(generalize w5=w6 at *))
  | ((have T4:Gm W (w5.setCell ⟨cb,4,none⟩ (.int .i64 (o+1))) cb nt v b1 b2 i o1 t1 t2 #[.int .i64 yk,.int .i64 ya,.string yt,.int .i64 yi,.int .u64 yb]:=(by rw[ho1];exact T3'.out.Ut hl u1 _));(have T4':=hid T4);clear T4 c4 z4 T3' T2' ho1;(generalize w5.setCell ⟨cb,4,none⟩ (.int .i64 (o+1))=w6 at *)))
 all_goals (
  (have T4:=T4'.out)
  (have x0:w6.cell? ⟨nt,0,none⟩=some (.int .i64 yk):=aA T4.tok 0)
  (have x1:w6.cell? ⟨nt,1,none⟩=some (.int .i64 ya):=aA T4.tok 1)
  (have x2:w6.cell? ⟨nt,2,none⟩=some (.string yt):=aA T4.tok 2)
  (have x3:w6.cell? ⟨nt,3,none⟩=some (.int .i64 yi):=aA T4.tok 3)
  (have x4:w6.cell? ⟨nt,4,none⟩=some (.int .u64 yb):=aA T4.tok 4)
  clear T4
  cases q)
 all_goals (
  go_upto_region 6 with(go_at_call 112;(with_reducible refine(cx _).mono ?_);rintro e w7 ⟨rfl,b7⟩;clear cx x0 x1 x2 x3 x4;(have T5:=T4'.out.below b7);(have c4:w7.cell? ⟨cb,4,none⟩=some (.int .i64 o1):=aA T5.top 4);(have z4:=aC T5.top 4);(have T5':=hid T5);clear T5 b7 T4'))
 all_goals (first
  | ((have T6:Gm W w7 cb nt v b1 b2 i o2 t1 t2 #[.int .i64 yk,.int .i64 ya,.string yt,.int .i64 yi,.int .u64 yb]:=(by rw[ho2];exact T5'.out));(have T6':=hid T6);clear T6 c4 z4 T5' ho2;(generalize w7=w8 at *))
  | ((have T6:Gm W (w7.setCell ⟨cb,4,none⟩ (.int .i64 (o1-1))) cb nt v b1 b2 i o2 t1 t2 #[.int .i64 yk,.int .i64 ya,.string yt,.int .i64 yi,.int .u64 yb]:=(by rw[ho2];exact T5'.out.Ut hl u1 _));(have T6':=hid T6);clear T6 c4 z4 T5' ho2;(generalize w7.setCell ⟨cb,4,none⟩ (.int .i64 (o1-1))=w8 at *)))
 all_goals (
  (have T6:=T6'.out)
  (have x0:w8.cell? ⟨nt,0,none⟩=some (.int .i64 yk):=aA T6.tok 0)
  (have x1:w8.cell? ⟨nt,1,none⟩=some (.int .i64 ya):=aA T6.tok 1)
  (have x2:w8.cell? ⟨nt,2,none⟩=some (.string yt):=aA T6.tok 2)
  (have x3:w8.cell? ⟨nt,3,none⟩=some (.int .i64 yi):=aA T6.tok 3)
  (have x4:w8.cell? ⟨nt,4,none⟩=some (.int .u64 yb):=aA T6.tok 4)
  (have c3:w8.cell? ⟨cb,3,none⟩=some (.int .i64 i):=aA T6.top 3)
  (have z3:=aC T6.top 3)
  (have ec:=aA T6.res)
  (have ef:=aC T6.res)
  clear T6
  go_wp2
  (have T7:=T6'.out.aAE hl u1 (i+1))
  refine bodyPost_ret (lI rfl _ _ W.heap.size _ _ _ _ _ (0,0) rfl (gK T7.res _ _ _ _ _)) rfl ?_
  refine⟨rfl,?_,?_⟩
  ·exact lM T7.upd (.inr ⟨aH _,(dI.1 T7.res).1⟩) _ _ _ _ _
  ·exact(iV u4 _ _ _ _ _).trans T7.top)
section
variable {W w':World} {cb i:Nat} {Ys:List Yd} {s:Cs} {v:Value} {t f:jv} {y:Yd} {e:Ending}
theorem Cu.next(h:Cu W cb Ys s i v t)(hy:look s=.ok y):i<(good Ys).length/\(good Ys)[i]? = some y:=by
 by_cases hi:i<(good Ys).length
 ·refine⟨hi,?_⟩
  rw[(h.in hi).1] at hy
  split at hy
  ·cases hy
  ·cases hy
   exact List.getElem?_eq_getElem hi
 ·have hle:=h.le
  rw[h.end (by omega)] at hy
  cases hy
theorem Ny(h:Cv W cb Ys v s)(hy:look s=.ok y):Calls prog 82 #[.pointer (some ⟨cb,0,none⟩)] W λe w'=>e=.returned (tv y.t y.a)/\It.bL (λk=>k=cb) W w'/\Cv w' cb Ys v (behind y s):=by
 have hh:=h.cur
 obtain⟨i,t,h⟩:=h
 obtain⟨hi,hg⟩:=h.next hy
 have hlo:=h.lo
 have hhi:=h.hi
 have hlen:=h.len
 refine(Hf W cb v _ _ i s.o _ _ y _ _ rfl rfl h.top _ _ rfl rfl ?_ ?_ ?_ (λw1 hB=>look_ok (hh.below hB) hy)).mono ?_
 ·rw[dR];omega
 ·rw[dR];split <;> omega
 ·rw[dR];omega
 ·rintro e w' ⟨rfl,hu,ht⟩
  have hr:(behind y s).r=Ys.drop (i+1):=by
   unfold behind
   rw[h.at']
   simp
  have ho:(behind y s).o=(if eP y.t=true then (if dx y.t=true then s.o+1 else s.o)-1 else (if dx y.t=true then s.o+1 else s.o)):=by
   unfold behind
   cases dx y.t <;> cases eP y.t <;> simp
  refine⟨rfl,hu,i+1,t,?_⟩
  refine⟨?_,bD h.row (λk e=>hu.block k (h.row.lt k e).2 (h.own k e)),h.own,hr,by omega,?_,?_,h.all⟩
  ·rw[ht,ho]
   rfl
  ·rw[ho]
   cases dx y.t <;> cases eP y.t <;> simp <;> omega
  ·rw[ho]
   cases dx y.t <;> cases eP y.t <;> simp <;> omega
theorem KV(h:Qx W cb Ys s)(hy:look s=.error f):Calls prog 82 #[.pointer (some ⟨cb,0,none⟩)] W λe w'=>Err W cb f e w':=by
 have cl:∀w1,Below W.heap.size W w1->Calls prog 29 #[.pointer (some ⟨cb,0,none⟩)] w1 λe w'=>Err W cb f e w':=λw1 hB=>(Cq (h.below hB) hy).mono λe w' he=>he.from hB
 clear h hy
 go_enter func82,ntmps82
 go_wp2_with (go_at_call 29;(with_reducible refine(cl _ ((aL _ W).alloc (aH _) _)).mono ?_);rintro e w4 ⟨he,ht,hu⟩;clear cl;(unfold kC fv at he);subst he)
 exact⟨rfl,rfl,ht,hu⟩
end
structure Cx (W0 W:World) (cb:Nat) (Ys:List Yd) (v:Value) (s:Cs):Prop where
 cv:Cv W cb Ys v s
 upd:It.bL (λk=>k=cb) W0 W
 lt:cb<W0.heap.size
 own:∀k,v.ownBlock=some k->k<W0.heap.size
section
variable {W0 W w':World} {cb:Nat} {Ys:List Yd} {v:Value} {s s':Cs} {f:jv} {y:Yd} {e:Ending}
theorem Cx.cur(h:Cx W0 W cb Ys v s):Qx W cb Ys s:=h.cv.cur
theorem Cx.Ed(h:Cx W0 W cb Ys v s):cb<W.heap.size:=Nat.lt_of_lt_of_le h.lt h.upd.size
theorem Cx.start(h:Cv W cb Ys v s):Cx W W cb Ys v s:=by
 have hh:=h
 obtain⟨i,t,h⟩:=h
 exact⟨hh,It.bL.refl _ _,h.lt,λk e=>(h.row.lt k e).2⟩
theorem Cx.keep(h:Cx W0 W cb Ys v s)(hk:∀k,k<W0.heap.size->w'.heap[k]? = W.heap[k]?)(hU:It.bL (λk=>k=cb) W0 w'):Cx W0 w' cb Ys v s:=by
 obtain⟨i,t,c⟩:=h.cv
 exact⟨⟨i,t,(hk cb h.lt).trans c.top,bD c.row (λk e=>hk k (h.own k e)),c.own,c.at',c.le,c.lo,c.hi,c.all⟩,hU,h.lt,h.own⟩
theorem Cx.below(h:Cx W0 W cb Ys v s)(hB:Below W.heap.size W w'):Cx W0 w' cb Ys v s:=h.keep (λk hk=>hB.block k (Nat.lt_of_lt_of_le hk h.upd.size)) (h.upd.trans' (It.bL.of_below hB))
theorem Cx.five(h:Cx W0 W cb Ys v s){gb:Nat}(h1:W0.heap.size<=gb)(h2:gb<W.heap.size)(v0 v1 v2 v3 v4:Value):Cx W0 (((((W.setCell ⟨gb,0,none⟩ v0).setCell ⟨gb,1,none⟩ v1).setCell ⟨gb,2,none⟩ v2).setCell ⟨gb,3,none⟩ v3).setCell ⟨gb,4,none⟩ v4) cb Ys v s:=
 h.keep (λk hk=>iV (by omega) _ _ _ _ _) (lM h.upd (.inr ⟨h1,h2⟩) _ _ _ _ _)
theorem Cx.alloc(h:Cx W0 W cb Ys v s)(o:Obj):Cx W0 (W.alloc o) cb Ys v s:=h.below ((aL _ W).alloc (aH _) _)
theorem Cx.drew(h:Cx W0 W cb Ys v s):Cx W0 W.drew cb Ys v s:=h.below (aL _ W).drew
theorem Cx.err(h:Cx W0 W cb Ys v s)(he:Err W cb f e w'):Err W0 cb f e w':=⟨he.1,he.2.1,h.upd.trans' he.2.2⟩
theorem SX(h:Cx W0 W cb Ys v s)(hy:look s=.ok y):Calls prog 29 #[(Value.pointer (some ⟨cb,0,none⟩))] W λe w'=>e=.returned (tv y.t y.a)/\Cx W0 w' cb Ys v s/\It.bL (λk=>k=cb) W w':=
 (look_ok h.cur hy).mono λe w' he=>⟨he.1,h.below he.2,It.bL.of_below he.2⟩
theorem A8(h:Cx W0 W cb Ys v s)(hy:look s=.error f):Calls prog 29 #[(Value.pointer (some ⟨cb,0,none⟩))] W λe w'=>Err W0 cb f e w':=
 (Cq h.cur hy).mono λe w' he=>h.err he
theorem Dx(h:Cx W0 W cb Ys v s)(hy:look s=.ok y):Calls prog 82 #[(Value.pointer (some ⟨cb,0,none⟩))] W λe w'=>e=.returned (tv y.t y.a)/\Cx W0 w' cb Ys v (behind y s)/\It.bL (λk=>k=cb) W w':=
 (Ny h.cv hy).mono λe w' he=>⟨he.1,⟨he.2.2,h.upd.trans' he.2.1,h.lt,h.own⟩,he.2.1⟩
theorem RJ(h:Cx W0 W cb Ys v s)(hy:look s=.error f):Calls prog 82 #[(Value.pointer (some ⟨cb,0,none⟩))] W λe w'=>Err W0 cb f e w':=
 (KV h.cur hy).mono λe w' he=>h.err he
theorem Kh(h:Cx W0 W cb Ys v s)(hy:look s=.ok y)(g:Nat)(zs:List ByteArray)(hn:zs.length<=10)(hz:∀j,j<zs.length->W.cell? ⟨g,j,none⟩=some (.string (zs.getD j ByteArray.empty)))(hg:g<W.heap.size):Calls prog 30 #[(Value.pointer (some ⟨cb,0,none⟩)),.slice (some ⟨g,0,none⟩) zs.length zs.length] W λe w'=>e=.returned (.bool (dQ zs (aG y.t)))/\Cx W0 w' cb Ys v s/\It.bL (λk=>k=cb) W w':=by
 have cl:=look_ok h.cur hy
 have cf:=kI y.t y.a
 have cc:∀w1,Below W.heap.size W w1->Calls prog 48 #[.slice (some ⟨g,0,none⟩) zs.length zs.length,.string (aG y.t)] w1 λe w'=>e=.returned (.bool (dQ zs (aG y.t)))/\w'=w1:=by
  intro w1 hB
  have:=Tryz.slices_Contains_string g 0 zs.length zs.length zs (aG y.t) w1 (aH _) (by omega) (λj hj=>by rw[Nat.zero_add];exact(hB.cell (p:=⟨g,j,none⟩) hg).trans (hz j hj))
  rwa [List.take_of_length_le (aH _)] at this
 have HH:=hid h
 generalize dQ zs (aG y.t)=R at *
 generalize zs.length=n at *
 generalize aG y.t=x at *
 unfold tv at *
 clear h hz hn hy
 go_enter func30,ntmps30
 go_wp2_with (first|(go_at_call 29;(with_reducible refine cl.mono ?_);rintro e w2 ⟨rfl,b2⟩;clear cl)|(go_at_call 49;(with_reducible refine(cf _).mono ?_);rintro e w3 ⟨rfl,b3⟩;clear cf;(have hB:=b2.trans (b3.mono b2.size));clear b2 b3)|(go_at_call 48;(with_reducible refine(cc _ hB).mono ?_);rintro e w4 ⟨rfl,hw⟩;(have hw':=hw.symm);subst hw';clear hw cc))
 go_ret
 exact⟨rfl,HH.out.below hB,It.bL.of_below hB⟩
theorem RX(h:Cx W0 W cb Ys v s)(hy:look s=.error f)(z:Value):Calls prog 30 #[(Value.pointer (some ⟨cb,0,none⟩)),z] W λe w'=>Err W0 cb f e w':=by
 have cl:=A8 h hy
 clear h hy
 go_enter func30,ntmps30
 go_wp2_with (go_at_call 29;(with_reducible refine cl.mono ?_);rintro e w4 ⟨he,ht,hu⟩;clear cl;(unfold kC fv at he);subst he)
 exact⟨rfl,rfl,ht,hu⟩
theorem Fj(h:Cx W0 W cb Ys v s)(hy:look s=.ok y)(g:Nat)(k:ByteArray)(hz:W.cell? ⟨g,0,none⟩=some (.string k)):Calls prog 30 #[(Value.pointer (some ⟨cb,0,none⟩)),.slice (some ⟨g,0,none⟩) 1 1] W λe w'=>e=.returned (.bool (decide (aG y.t=k)))/\Cx W0 w' cb Ys v s/\It.bL (λk=>k=cb) W w':=by
 have hc:dQ [k] (aG y.t)=decide (aG y.t=k):=by
  cases hd:decide (aG y.t=k) with
  | true=>exact(eU _ _).2 (by simp[of_decide_eq_true hd])
  | false=>
   cases hb:dQ [k] (aG y.t) with
   | false=>rfl
   | true=>
    have:=(eU _ _).1 hb
    simp at this
    exact absurd this (of_decide_eq_false hd)
 rw[<- hc]
 refine Kh h hy g [k] (by simp) ?_ (gL W _ hz)
 intro j hj
 have:j=0:=by simpa using hj
 subst this
 exact hz
theorem Fh(h:Cx W0 W cb Ys v s)(hy:look s=.ok y)(g:Nat)(k l:ByteArray)(hz:W.cell? ⟨g,0,none⟩=some (.string k))(hz2:W.cell? ⟨g,1,none⟩=some (.string l)):Calls prog 30 #[(Value.pointer (some ⟨cb,0,none⟩)),.slice (some ⟨g,0,none⟩) 2 2] W λe w'=>e=.returned (.bool (decide (aG y.t=k\/aG y.t=l)))/\Cx W0 w' cb Ys v s/\It.bL (λk=>k=cb) W w':=by
 have hc:dQ [k,l] (aG y.t)=decide (aG y.t=k\/aG y.t=l):=by
  cases hd:decide (aG y.t=k\/aG y.t=l) with
  | true=>exact(eU _ _).2 (by simpa using of_decide_eq_true hd)
  | false=>
   cases hb:dQ [k,l] (aG y.t) with
   | false=>rfl
   | true=>
    have:=(eU _ _).1 hb
    simp at this
    exact absurd this (of_decide_eq_false hd)
 rw[<- hc]
 refine Kh h hy g [k,l] (by simp) ?_ (gL W _ hz)
 intro j hj
 match j,hj with
 | 0,_=>exact hz
 | 1,_=>exact hz2
theorem NG{x t:ByteArray}(h:¬x=t):(x.toList==t.toList)=false:=by
 cases hb:(x.toList==t.toList) with
 | false=>rfl
 | true=>
  have e:x.toList=t.toList:=eq_of_beq hb
  rw[ByteArray.toList_eq,ByteArray.toList_eq] at e
  refine absurd ?_ h
  cases x
  cases t
  congr
  exact Array.toList_inj.1 e
theorem qX(h:Cx W0 W cb Ys v s)(hy:look s=.ok y)(t:ByteArray)(ht:aG y.t=t):Calls prog 50 #[(Value.pointer (some ⟨cb,0,none⟩)),.string t] W λe w'=>e=.returned (tv y.t y.a)/\Cx W0 w' cb Ys v (behind y s)/\It.bL (λk=>k=cb) W w':=by
 have cl:∀w1,Below W.heap.size W w1->Calls prog 29 #[(Value.pointer (some ⟨cb,0,none⟩))] w1 λe w'=>e=.returned (tv y.t y.a)/\Below w1.heap.size w1 w':=λw1 hB=>look_ok (h.below hB).cur hy
 have cf:=kI y.t y.a
 have ck:∀w1,Below W.heap.size W w1->Calls prog 82 #[(Value.pointer (some ⟨cb,0,none⟩))] w1 λe w'=>e=.returned (tv y.t y.a)/\Cx W0 w' cb Ys v (behind y s)/\It.bL (λk=>k=cb) w1 w':=λw1 hB=>Dx (h.below hB) hy
 rw[ht] at cf
 have kk:(t.toList==t.toList)=true:=by simp
 have hl:=h.Ed
 have HH:=hid h
 unfold tv at *
 clear h
 go_enter func50,ntmps50
 go_upto_region 2 with(go_at_call 29;(with_reducible refine(cl _ ((aL _ W).alloc (aH _) _)).mono ?_);rintro e w2 ⟨rfl,b2⟩;clear cl)
 have z2:=b2.size
 rw[bY] at z2
 have bA:Below W.heap.size W (W.alloc (.cells #[.int .i64 0,.int .i64 0,.string ⟨#[]⟩,.int .i64 0,.int .u64 0] 36)):=(aL _ W).alloc (aH _) _
 have bB:Below w2.heap.size w2 (w2.alloc (.cells #[.int .i64 y.t.kind,.int .i64 y.a,.string y.t.text,.int .i64 y.t.int,.int .u64 y.t.bits] 36)):=(aL _ _).alloc (aH _) _
 have bW:Below W.heap.size W w2:=bA.trans (b2.mono bA.size)
 have hB2:Below W.heap.size W (w2.alloc (.cells #[.int .i64 y.t.kind,.int .i64 y.a,.string y.t.text,.int .i64 y.t.int,.int .u64 y.t.bits] 36)):=bW.trans (bB.mono bW.size)
 have q0:=aF (aF (ay W _) b2) bB
 have q1:=ay w2 (.cells #[.int .i64 y.t.kind,.int .i64 y.a,.string y.t.text,.int .i64 y.t.int,.int .u64 y.t.bits] 36)
 clear bA bB bW b2
 generalize w2.alloc (.cells #[.int .i64 y.t.kind,.int .i64 y.a,.string y.t.text,.int .i64 y.t.int,.int .u64 y.t.bits] 36)=W2 at *
 generalize w2.heap.size=nt at *
 have x0:W2.cell? ⟨nt,0,none⟩=some (.int .i64 y.t.kind):=aA q1 0
 have x1:W2.cell? ⟨nt,1,none⟩=some (.int .i64 y.a):=aA q1 1
 have x2:W2.cell? ⟨nt,2,none⟩=some (.string y.t.text):=aA q1 2
 have x3:W2.cell? ⟨nt,3,none⟩=some (.int .i64 y.t.int):=aA q1 3
 have x4:W2.cell? ⟨nt,4,none⟩=some (.int .u64 y.t.bits):=aA q1 4
 have HQ:=hid (aY hB2 (aY q0 q1))
 clear hB2 q0 q1
 go_wp2_with (first|(go_at_call 49;(with_reducible refine(cf _).mono ?_);rintro e w3 ⟨rfl,b3⟩;clear cf;(have hB3:=HQ.out.1.trans (b3.mono HQ.out.1.size));(have q3:=HQ.out.2.2);(have q3':=aF q3 b3);(have x1:w3.cell? ⟨nt,1,none⟩=some (.int .i64 y.a):=aA q3' 1);(have HB3:=hid (aY hB3 (aF HQ.out.2.1 b3)));clear hB3 b3 q3 q3')|(go_at_call 82;(with_reducible refine(ck _ HB3.out.1).mono ?_);rintro e w5 ⟨rfl,hx,hu⟩;clear ck;(have r0:=(hu.block _ (dI.1 HB3.out.2).1 (by omega)).trans HB3.out.2);(have ec:=aA r0);(have ef:=aC r0);(have HR:=hid (aY r0 (aY hx ((It.bL.of_below HB3.out.1).trans' hu))));clear r0 hx hu))
 obtain⟨r0,hx,hu⟩:=HR.out
 have hlt:=(dI.1 r0).1
 refine bodyPost_ret (lI rfl _ _ W.heap.size _ _ _ _ _ (0,0) rfl (gK r0 _ _ _ _ _)) rfl ?_
 exact⟨rfl,hx.five HH.out.upd.size hlt _ _ _ _ _,lM hu (.inr ⟨aH _,hlt⟩) _ _ _ _ _⟩
theorem Jz(h:Cx W0 W cb Ys v s)(hy:look s=.ok y)(t:ByteArray)(ht:¬aG y.t=t):Calls prog 50 #[(Value.pointer (some ⟨cb,0,none⟩)),.string t] W λe w'=>Err W0 cb (70,y.a) e w':=by
 have cl:∀w1,Below W.heap.size W w1->Calls prog 29 #[(Value.pointer (some ⟨cb,0,none⟩))] w1 λe w'=>e=.returned (tv y.t y.a)/\Below w1.heap.size w1 w':=λw1 hB=>look_ok (h.below hB).cur hy
 have cf:=kI y.t y.a
 have cr:∀w1,Below W.heap.size W w1->Calls prog 46 #[(Value.pointer (some ⟨cb,0,none⟩)),fv (70,y.a)] w1 λe w'=>Err W0 cb (70,y.a) e w':=by
  intro w1 hB
  have hx:=h.below hB
  obtain⟨i,t,hc⟩:=hx.cv
  exact(rP hc _).mono λe w' he=>hx.err he
 unfold fv at cr
 have kk:=NG ht
 clear ht
 generalize aG y.t=x at *
 have hl:=h.Ed
 have HH:=hid h
 unfold tv at *
 clear h
 go_enter func50,ntmps50
 go_upto_region 2 with(go_at_call 29;(with_reducible refine(cl _ ((aL _ W).alloc (aH _) _)).mono ?_);rintro e w2 ⟨rfl,b2⟩;clear cl)
 have z2:=b2.size
 rw[bY] at z2
 have bA:Below W.heap.size W (W.alloc (.cells #[.int .i64 0,.int .i64 0,.string ⟨#[]⟩,.int .i64 0,.int .u64 0] 36)):=(aL _ W).alloc (aH _) _
 have bB:Below w2.heap.size w2 (w2.alloc (.cells #[.int .i64 y.t.kind,.int .i64 y.a,.string y.t.text,.int .i64 y.t.int,.int .u64 y.t.bits] 36)):=(aL _ _).alloc (aH _) _
 have bW:Below W.heap.size W w2:=bA.trans (b2.mono bA.size)
 have hB2:Below W.heap.size W (w2.alloc (.cells #[.int .i64 y.t.kind,.int .i64 y.a,.string y.t.text,.int .i64 y.t.int,.int .u64 y.t.bits] 36)):=bW.trans (bB.mono bW.size)
 have q0:=aF (aF (ay W _) b2) bB
 have q1:=ay w2 (.cells #[.int .i64 y.t.kind,.int .i64 y.a,.string y.t.text,.int .i64 y.t.int,.int .u64 y.t.bits] 36)
 clear bA bB bW b2
 generalize w2.alloc (.cells #[.int .i64 y.t.kind,.int .i64 y.a,.string y.t.text,.int .i64 y.t.int,.int .u64 y.t.bits] 36)=W2 at *
 generalize w2.heap.size=nt at *
 have x0:W2.cell? ⟨nt,0,none⟩=some (.int .i64 y.t.kind):=aA q1 0
 have x1:W2.cell? ⟨nt,1,none⟩=some (.int .i64 y.a):=aA q1 1
 have x2:W2.cell? ⟨nt,2,none⟩=some (.string y.t.text):=aA q1 2
 have x3:W2.cell? ⟨nt,3,none⟩=some (.int .i64 y.t.int):=aA q1 3
 have x4:W2.cell? ⟨nt,4,none⟩=some (.int .u64 y.t.bits):=aA q1 4
 have HQ:=hid (aY hB2 (aY q0 q1))
 clear hB2 q0 q1
 go_wp2_with (first|(go_at_call 49;(with_reducible refine(cf _).mono ?_);rintro e w3 ⟨rfl,b3⟩;clear cf;(have hB3:=HQ.out.1.trans (b3.mono HQ.out.1.size));(have q3:=HQ.out.2.2);(have q3':=aF q3 b3);(have x1:w3.cell? ⟨nt,1,none⟩=some (.int .i64 y.a):=aA q3' 1);(have HB3:=hid (aY hB3 (aF HQ.out.2.1 b3)));clear hB3 b3 q3 q3')|(go_at_call 46;(with_reducible refine(cr _ HB3.out.1).mono ?_);rintro e w5 ⟨he,ht,hu⟩;clear cr;(unfold kC fv at he);subst he))
 exact⟨rfl,rfl,ht,hu⟩
theorem RA(h:Cx W0 W cb Ys v s)(hy:look s=.error f)(t:ByteArray):Calls prog 50 #[(Value.pointer (some ⟨cb,0,none⟩)),.string t] W λe w'=>Err W0 cb f e w':=by
 have cl:∀w1,Below W.heap.size W w1->Calls prog 29 #[(Value.pointer (some ⟨cb,0,none⟩))] w1 λe w'=>Err W0 cb f e w':=λw1 hB=>A8 (h.below hB) hy
 clear h hy
 go_enter func50,ntmps50
 go_wp2_with (go_at_call 29;(with_reducible refine(cl _ ((aL _ W).alloc (aH _) _)).mono ?_);rintro e w4 ⟨he,ht,hu⟩;clear cl;(unfold kC fv at he);subst he)
 exact⟨rfl,rfl,ht,hu⟩
theorem SG(h:Cx W0 W cb Ys v s)(hy:look s=.ok y)(ht:y.t.kind=1):Calls prog 51 #[(Value.pointer (some ⟨cb,0,none⟩))] W λe w'=>e=.returned (tv y.t y.a)/\Cx W0 w' cb Ys v (behind y s)/\It.bL (λk=>k=cb) W w':=by
 have cl:∀w1,Below W.heap.size W w1->Calls prog 29 #[(Value.pointer (some ⟨cb,0,none⟩))] w1 λe w'=>e=.returned (tv y.t y.a)/\Below w1.heap.size w1 w':=λw1 hB=>look_ok (h.below hB).cur hy
 have ck:∀w1,Below W.heap.size W w1->Calls prog 82 #[(Value.pointer (some ⟨cb,0,none⟩))] w1 λe w'=>e=.returned (tv y.t y.a)/\Cx W0 w' cb Ys v (behind y s)/\It.bL (λk=>k=cb) w1 w':=λw1 hB=>Dx (h.below hB) hy
 have kk:(y.t.kind==1)=true:=by simp[ht]
 clear ht
 have hl:=h.Ed
 have HH:=hid h
 unfold tv at *
 clear h
 go_enter func51,ntmps51
 go_upto_region 2 with(go_at_call 29;(with_reducible refine(cl _ ((aL _ W).alloc (aH _) _)).mono ?_);rintro e w2 ⟨rfl,b2⟩;clear cl)
 have z2:=b2.size
 rw[bY] at z2
 have bA:Below W.heap.size W (W.alloc (.cells #[.int .i64 0,.int .i64 0,.string ⟨#[]⟩,.int .i64 0,.int .u64 0] 36)):=(aL _ W).alloc (aH _) _
 have bB:Below w2.heap.size w2 (w2.alloc (.cells #[.int .i64 y.t.kind,.int .i64 y.a,.string y.t.text,.int .i64 y.t.int,.int .u64 y.t.bits] 36)):=(aL _ _).alloc (aH _) _
 have bW:Below W.heap.size W w2:=bA.trans (b2.mono bA.size)
 have hB2:Below W.heap.size W (w2.alloc (.cells #[.int .i64 y.t.kind,.int .i64 y.a,.string y.t.text,.int .i64 y.t.int,.int .u64 y.t.bits] 36)):=bW.trans (bB.mono bW.size)
 have q0:=aF (aF (ay W _) b2) bB
 have q1:=ay w2 (.cells #[.int .i64 y.t.kind,.int .i64 y.a,.string y.t.text,.int .i64 y.t.int,.int .u64 y.t.bits] 36)
 clear bA bB bW b2
 generalize w2.alloc (.cells #[.int .i64 y.t.kind,.int .i64 y.a,.string y.t.text,.int .i64 y.t.int,.int .u64 y.t.bits] 36)=W2 at *
 generalize w2.heap.size=nt at *
 have x0:W2.cell? ⟨nt,0,none⟩=some (.int .i64 y.t.kind):=aA q1 0
 have x1:W2.cell? ⟨nt,1,none⟩=some (.int .i64 y.a):=aA q1 1
 have x2:W2.cell? ⟨nt,2,none⟩=some (.string y.t.text):=aA q1 2
 have x3:W2.cell? ⟨nt,3,none⟩=some (.int .i64 y.t.int):=aA q1 3
 have x4:W2.cell? ⟨nt,4,none⟩=some (.int .u64 y.t.bits):=aA q1 4
 have HQ:=hid (aY hB2 (aY q0 q1))
 have HB3:=hid (aY hB2 q0)
 clear hB2 q0 q1
 go_wp2_with ((go_at_call 82;(with_reducible refine(ck _ HB3.out.1).mono ?_);rintro e w5 ⟨rfl,hx,hu⟩;clear ck;(have r0:=(hu.block _ (dI.1 HB3.out.2).1 (by omega)).trans HB3.out.2);(have ec:=aA r0);(have ef:=aC r0);(have HR:=hid (aY r0 (aY hx ((It.bL.of_below HB3.out.1).trans' hu))));clear r0 hx hu))
 obtain⟨r0,hx,hu⟩:=HR.out
 have hlt:=(dI.1 r0).1
 refine bodyPost_ret (lI rfl _ _ W.heap.size _ _ _ _ _ (0,0) rfl (gK r0 _ _ _ _ _)) rfl ?_
 exact⟨rfl,hx.five HH.out.upd.size hlt _ _ _ _ _,lM hu (.inr ⟨aH _,hlt⟩) _ _ _ _ _⟩
theorem Lm(h:Cx W0 W cb Ys v s)(hy:look s=.ok y)(ht:¬y.t.kind=1):Calls prog 51 #[(Value.pointer (some ⟨cb,0,none⟩))] W λe w'=>Err W0 cb (70,y.a) e w':=by
 have cl:∀w1,Below W.heap.size W w1->Calls prog 29 #[(Value.pointer (some ⟨cb,0,none⟩))] w1 λe w'=>e=.returned (tv y.t y.a)/\Below w1.heap.size w1 w':=λw1 hB=>look_ok (h.below hB).cur hy
 have cr:∀w1,Below W.heap.size W w1->Calls prog 46 #[(Value.pointer (some ⟨cb,0,none⟩)),fv (70,y.a)] w1 λe w'=>Err W0 cb (70,y.a) e w':=by
  intro w1 hB
  have hx:=h.below hB
  obtain⟨i,t,hc⟩:=hx.cv
  exact(rP hc _).mono λe w' he=>hx.err he
 unfold fv at cr
 have kk:(y.t.kind==1)=false:=by simp[ht]
 clear ht
 have hl:=h.Ed
 have HH:=hid h
 unfold tv at *
 clear h
 go_enter func51,ntmps51
 go_upto_region 2 with(go_at_call 29;(with_reducible refine(cl _ ((aL _ W).alloc (aH _) _)).mono ?_);rintro e w2 ⟨rfl,b2⟩;clear cl)
 have z2:=b2.size
 rw[bY] at z2
 have bA:Below W.heap.size W (W.alloc (.cells #[.int .i64 0,.int .i64 0,.string ⟨#[]⟩,.int .i64 0,.int .u64 0] 36)):=(aL _ W).alloc (aH _) _
 have bB:Below w2.heap.size w2 (w2.alloc (.cells #[.int .i64 y.t.kind,.int .i64 y.a,.string y.t.text,.int .i64 y.t.int,.int .u64 y.t.bits] 36)):=(aL _ _).alloc (aH _) _
 have bW:Below W.heap.size W w2:=bA.trans (b2.mono bA.size)
 have hB2:Below W.heap.size W (w2.alloc (.cells #[.int .i64 y.t.kind,.int .i64 y.a,.string y.t.text,.int .i64 y.t.int,.int .u64 y.t.bits] 36)):=bW.trans (bB.mono bW.size)
 have q0:=aF (aF (ay W _) b2) bB
 have q1:=ay w2 (.cells #[.int .i64 y.t.kind,.int .i64 y.a,.string y.t.text,.int .i64 y.t.int,.int .u64 y.t.bits] 36)
 clear bA bB bW b2
 generalize w2.alloc (.cells #[.int .i64 y.t.kind,.int .i64 y.a,.string y.t.text,.int .i64 y.t.int,.int .u64 y.t.bits] 36)=W2 at *
 generalize w2.heap.size=nt at *
 have x0:W2.cell? ⟨nt,0,none⟩=some (.int .i64 y.t.kind):=aA q1 0
 have x1:W2.cell? ⟨nt,1,none⟩=some (.int .i64 y.a):=aA q1 1
 have x2:W2.cell? ⟨nt,2,none⟩=some (.string y.t.text):=aA q1 2
 have x3:W2.cell? ⟨nt,3,none⟩=some (.int .i64 y.t.int):=aA q1 3
 have x4:W2.cell? ⟨nt,4,none⟩=some (.int .u64 y.t.bits):=aA q1 4
 have HQ:=hid (aY hB2 (aY q0 q1))
 have HB3:=hid (aY hB2 q0)
 clear hB2 q0 q1
 go_wp2_with ((go_at_call 46;(with_reducible refine(cr _ HB3.out.1).mono ?_);rintro e w5 ⟨he,ht,hu⟩;clear cr;(unfold kC fv at he);subst he))
 exact⟨rfl,rfl,ht,hu⟩
theorem SH(h:Cx W0 W cb Ys v s)(hy:look s=.error f)  : Calls prog 51 #[(Value.pointer (some ⟨cb,0,none⟩))] W λe w'=>Err W0 cb f e w':=by
 have cl:∀w1,Below W.heap.size W w1->Calls prog 29 #[(Value.pointer (some ⟨cb,0,none⟩))] w1 λe w'=>Err W0 cb f e w':=λw1 hB=>A8 (h.below hB) hy
 clear h hy
 go_enter func51,ntmps51
 go_wp2_with (go_at_call 29;(with_reducible refine(cl _ ((aL _ W).alloc (aH _) _)).mono ?_);rintro e w4 ⟨he,ht,hu⟩;clear cl;(unfold kC fv at he);subst he)
 exact⟨rfl,rfl,ht,hu⟩
end
abbrev ptr(b:Nat):Value:=.pointer (some ⟨b,0,none⟩)
def oI(n:Nd)(k:Value):Array Value:=#[.int .i64 n.kind,.int .i64 n.a,.int .i64 0,.string n.text,.int .i64 n.int,.int .u64 n.bits,k]
def bg(W:World):(Nat->Prop)->List Nat->Fo->Prop
 | S,bs,.nil=>bs=[]
 | S,bs,.cons n ks r=>∃b bs' v bk,bs=b::bs'/\S b/\W.heap[b]? = some (.cells (oI n v) 70 (0,0))/\W.ownsRow 0 54 1 v bk.length (bk.map ptr)/\(∀k,v.ownBlock=some k->S k/\k≠b)/\bg W (λk=>S k/\k≠b/\v.ownBlock≠some k) bk ks/\bg W S bs' r
theorem bg.mono{W:World}:∀ {f:Fo} {S S':Nat->Prop} {bs:List Nat},(∀k,S k->S' k)->bg W S bs f->bg W S' bs f
 | .nil,S,S',bs,hs,h=>h
 | .cons n ks r,S,S',bs,hs,h=>by
  obtain⟨b,bs',v,bk,h1,h2,h3,h4,h5,h6,h7⟩:=h
  exact⟨b,bs',v,bk,h1,hs b h2,h3,h4,λk e=>⟨hs k (h5 k e).1,(h5 k e).2⟩,bg.mono (λk e=>⟨hs k e.1,e.2⟩) h6,bg.mono hs h7⟩
theorem bg.on{W W':World}:∀ {f:Fo} {S:Nat->Prop} {bs:List Nat},(∀k,S k->k<W.heap.size->W'.heap[k]? = W.heap[k]?)->bg W S bs f->bg W' S bs f
 | .nil,S,bs,hs,h=>h
 | .cons n ks r,S,bs,hs,h=>by
  obtain⟨b,bs',v,bk,h1,h2,h3,h4,h5,h6,h7⟩:=h
  exact⟨b,bs',v,bk,h1,h2,(hs b h2 (dI.1 h3).1).trans h3,bD h4 (λk e=>hs k (h5 k e).1 (h4.lt k e).2),h5,bg.on (λk e=>hs k e.1) h6,bg.on hs h7⟩
theorem bg.lt{W:World}:∀ {f:Fo} {S:Nat->Prop} {bs:List Nat},bg W S bs f->bg W (λk=>S k/\k<W.heap.size) bs f
 | .nil,S,bs,h=>h
 | .cons n ks r,S,bs,h=>by
  obtain⟨b,bs',v,bk,h1,h2,h3,h4,h5,h6,h7⟩:=h
  exact⟨b,bs',v,bk,h1,⟨h2,(dI.1 h3).1⟩,h3,h4,λk e=>⟨⟨(h5 k e).1,(h4.lt k e).2⟩,(h5 k e).2⟩,bg.mono (λk e=>⟨⟨e.1.1,e.2⟩,e.1.2⟩) (bg.lt h6),bg.lt h7⟩
theorem bg.app{W:World}:∀ {f g:Fo} {S:Nat->Prop} {bs cs:List Nat},bg W S bs f->bg W S cs g->bg W S (bs++cs) (f.app g)
 | .nil,g,S,bs,cs,h,hg=>by
  have:bs=[]:=h
  subst this
  exact hg
 | .cons n ks r,g,S,bs,cs,h,hg=>by
  obtain⟨b,bs',v,bk,h1,h2,h3,h4,h5,h6,h7⟩:=h
  exact⟨b,bs'++cs,v,bk,by rw[h1];rfl,h2,h3,h4,h5,h6,bg.app h7 hg⟩
theorem bg.len{W:World}:∀ {f:Fo} {S:Nat->Prop} {bs:List Nat},bg W S bs f->bs.length=f.len
 | .nil,S,bs,h=>by
  have:bs=[]:=h
  subst this
  rfl
 | .cons n ks r,S,bs,h=>by
  obtain⟨b,bs',v,bk,h1,h2,h3,h4,h5,h6,h7⟩:=h
  rw[h1]
  show bs'.length+1=r.len+1
  rw[bg.len h7]
theorem bg.below{W W':World}{S:Nat->Prop}{bs:List Nat}{f:Fo}(h:bg W S bs f)(hB:Below W.heap.size W W'):bg W' S bs f:=h.on (λk _ hk=>hB.block k hk)
theorem bg.upd{W W':World}{cb m:Nat}{bs:List Nat}{f:Fo}(h:bg W (λk=>m<=k) bs f)(hc:cb<m)(hU:It.bL (λk=>k=cb) W W'):bg W' (λk=>m<=k) bs f:=h.on (λk e hk=>hU.block k hk (by omega))
theorem zm{W:World}{g:Nat}{bs:List Nat}(h:W.heap[g]? = some (.cells (bs.map ptr).toArray 54 (0,0)))(hl:bs.length<=maxLen):W.ownsRow 0 54 1 (.slice (some ⟨g,0,none⟩) bs.length bs.length) bs.length (bs.map ptr):=
 ⟨by simp,.inr ⟨g,bs.length,_,rfl,Nat.zero_le _,h,aH _,hl,by simp,by rw[Nat.mul_one];exact List.take_of_length_le (by simp)⟩⟩
theorem bg.mk{W:World}{m b:Nat}{n:Nd}{v:Value}{bk:List Nat}{ks:Fo}(hm:m<=b)(hb:W.heap[b]? = some (.cells (oI n v) 70 (0,0)))(hr:W.ownsRow 0 54 1 v bk.length (bk.map ptr))(hv:∀k,v.ownBlock=some k->m<=k/\k≠b)(hk:bg W (λk=>m<=k/\k≠b/\v.ownBlock≠some k) bk ks):bg W (λk=>m<=k) [b] (Fo.one n ks):=
 ⟨b,[],v,bk,rfl,hm,hb,hr,hv,hk,rfl⟩
section
variable {W:World}
theorem Tj(k:Int)(y:Yd)(o:Option Addr)(l c:Nat)(W:World):Calls prog 28 #[.int .i64 k,tv y.t y.a,.slice o l c] W λe w'=>e=.returned (ptr (W.heap.size+1))/\Below W.heap.size W w'/\w'.heap[W.heap.size+1]? = some (.cells (oI (kT k y) (.slice o l c)) 70 (0,0))/\w'.heap.size=W.heap.size+2:=by
 unfold tv
 go_enter func28,ntmps28
 go_wp2
 go_ret
 refine⟨rfl,((aL _ W).alloc (aH _) _).alloc (by simp) _,?_,by simp⟩
 have:=ay (W.alloc (.cells #[.int .i64 y.t.kind,.int .i64 y.a,.string y.t.text,.int .i64 y.t.int,.int .u64 y.t.bits] 36)) (.cells (oI (kT k y) (.slice o l c)) 70)
 rw[bY] at this
 exact this
theorem Lf(k:Int)(y:Yd)(o:Option Addr)(l c:Nat)(W:World):Calls prog 52 #[.int .i64 k,tv y.t y.a,.slice o l c] W λe w'=>e=.returned (ptr (W.heap.size+1))/\Below W.heap.size W w'/\w'.heap[W.heap.size+1]? = some (.cells (oI (jr k y) (.slice o l c)) 70 (0,0))/\w'.heap.size=W.heap.size+2:=by
 unfold tv
 go_enter func52,ntmps52
 go_wp2
 go_ret
 refine⟨rfl,((aL _ W).alloc (aH _) _).alloc (by simp) _,?_,by simp⟩
 have:=ay (W.alloc (.cells #[.int .i64 y.t.kind,.int .i64 y.a,.string y.t.text,.int .i64 y.t.int,.int .u64 y.t.bits] 36)) (.cells (oI (jr k y) (.slice o l c)) 70)
 rw[bY] at this
 exact this
end
end Go.Proofs.YtgchnkgolclmgaaGreatDoor.W.Tr

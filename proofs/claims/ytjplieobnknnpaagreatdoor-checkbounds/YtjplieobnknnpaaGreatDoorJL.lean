import Derived.Test.YtjplieobnknnpaaGreatDoorJK
open Array renaming getElem?_eq_some_iff → z6z
open Nat renaming le_refl → z0z
open Go.World renaming alloc_heap_new → z3z, size_alloc → z5z, block_lt_of_cell? → z11z
open Go.RowKit.Below renaming refl → z1z, heap_setCell → z4z
open Go.IntKind renaming i64 → z9z, wrap_i64 → z10z
open Go.Lib renaming containsS → z7z, containsS_iff → z8z
open And renaming intro → z2z
open Go.Proofs.Tryz
set_option maxRecDepth 1000000
set_option maxHeartbeats 8000000
namespace Go.Proofs.YtjplieobnknnpaaGreatDoor.W.Tr
open Go.ChangeShapes Go.WideShapes Go.RowKit Go.Shelf
set_option linter.unusedVariables false
set_option linter.unusedSimpArgs false
theorem QC{S:Nat->Prop}{a w:World}{gb:Nat}(h:It.AL S a w)(hg:It.Nx S a w gb)(v0 v1 v2 v3 v4:Value):It.AL S a (((((w.setCell ⟨gb,0,none⟩ v0).setCell ⟨gb,1,none⟩ v1).setCell ⟨gb,2,none⟩ v2).setCell ⟨gb,3,none⟩ v3).setCell ⟨gb,4,none⟩ v4):=
 ((((h.setCell (p:=⟨gb,0,none⟩) hg v0).setCell (p:=⟨gb,1,none⟩) (hg.on (by simp)) v1).setCell (p:=⟨gb,2,none⟩) (hg.on (by simp)) v2).setCell (p:=⟨gb,3,none⟩) (hg.on (by simp)) v3).setCell (p:=⟨gb,4,none⟩) (hg.on (by simp)) v4
theorem dG{w:World}{gb k:Nat}(hk:¬k=gb)(v0 v1 v2 v3 v4:Value):(((((w.setCell ⟨gb,0,none⟩ v0).setCell ⟨gb,1,none⟩ v1).setCell ⟨gb,2,none⟩ v2).setCell ⟨gb,3,none⟩ v3).setCell ⟨gb,4,none⟩ v4).heap[k]? = w.heap[k]?:=by
 rw[z4z _ _ _ _ hk,z4z _ _ _ _ hk,z4z _ _ _ _ hk,z4z _ _ _ _ hk,z4z _ _ _ _ hk]
structure Gz (W W2:World) (cb nt:Nat) (v:Value) (b1 b2 i o t1 t2:Int) (tok:Array Value):Prop where
 top:W2.heap[cb]? = some (.cells #[v,.int .i64 b1,.int .i64 b2,.int .i64 i,.int .i64 o,.int .i64 t1,.int .i64 t2] 55 (0,0))
 upd:It.AL (λk=>k=cb) W W2
 res:W2.heap[W.heap.size]? = some (.cells #[.int .i64 0,.int .i64 0,.string ⟨#[]⟩,.int .i64 0,.int .u64 0] 71 (0,0))
 tok:W2.heap[nt]? = some (.cells tok 71 (0,0))
section
variable {W W2 w3:World} {cb nt:Nat} {v:Value} {b1 b2 i o t1 t2:Int} {tok:Array Value}
theorem Gz.below(h:Gz W W2 cb nt v b1 b2 i o t1 t2 tok)(hB:Below W2.heap.size W2 w3):Gz W w3 cb nt v b1 b2 i o t1 t2 tok:=
 ⟨AY h.top hB,h.upd.trans' (It.AL.of_below hB),AY h.res hB,AY h.tok hB⟩
theorem Gz.setO(h:Gz W W2 cb nt v b1 b2 i o t1 t2 tok)(hc:cb<W.heap.size)(hn:nt≠cb)(o':Int):Gz W (W2.setCell ⟨cb,4,none⟩ (.int .i64 o')) cb nt v b1 b2 i o' t1 t2 tok:=
 ⟨Bu (c:=[v,.int .i64 b1,.int .i64 b2,.int .i64 i,.int .i64 o,.int .i64 t1,.int .i64 t2]) h.top 4 (.int .i64 o'),h.upd.setCell (p:=⟨cb,4,none⟩) (.inl rfl) _,(z4z _ _ _ _ (by show W.heap.size≠cb;omega)).trans h.res,(z4z _ _ _ _ (by show nt≠cb;omega)).trans h.tok⟩
theorem Gz.setI(h:Gz W W2 cb nt v b1 b2 i o t1 t2 tok)(hc:cb<W.heap.size)(hn:nt≠cb)(i':Int):Gz W (W2.setCell ⟨cb,3,none⟩ (.int .i64 i')) cb nt v b1 b2 i' o t1 t2 tok:=
 ⟨Bu (c:=[v,.int .i64 b1,.int .i64 b2,.int .i64 i,.int .i64 o,.int .i64 t1,.int .i64 t2]) h.top 3 (.int .i64 i'),h.upd.setCell (p:=⟨cb,3,none⟩) (.inl rfl) _,(z4z _ _ _ _ (by show W.heap.size≠cb;omega)).trans h.res,(z4z _ _ _ _ (by show nt≠cb;omega)).trans h.tok⟩
end
theorem ABX(W:World)(cb:Nat)(v:Value)(b1 b2 i o t1 t2:Int)(y:Yd)(p q:Bool)(hp:Gm y.t=p)(hq:J8 y.t=q)(hc:W.heap[cb]? = some (.cells #[v,.int .i64 b1,.int .i64 b2,.int .i64 i,.int .i64 o,.int .i64 t1,.int .i64 t2] 55 (0,0)))(o1 o2:Int)(ho1:o1=if p=true then o+1 else o)(ho2:o2=if q=true then o1-1 else o1)(w1:z9z.wrap (o+1)=o+1)(w2:z9z.wrap (o1-1)=o1-1)(w3:z9z.wrap (i+1)=i+1)
  (cl:∀w1,Below W.heap.size W w1->Calls prog 32 #[.pointer (some ⟨cb,0,none⟩)] w1 λe w'=>e=.returned (tv y.t y.a)/\Below w1.heap.size w1 w') :
  Calls prog 95 #[.pointer (some ⟨cb,0,none⟩)] W λe w'=>e=.returned (tv y.t y.a)/\It.AL (λk=>k=cb) W w'/\w'.heap[cb]? = some (.cells #[v,.int .i64 b1,.int .i64 b2,.int .i64 (i+1),.int .i64 o2,.int .i64 t1,.int .i64 t2] 55 (0,0)):=by
 have co:=Yh y.t y.a
 have cx:=xO y.t y.a
 rw[hp] at co
 rw[hq] at cx
 have hl:cb<W.heap.size:=(z6z.1 hc).1
 have HC:=hid hc
 obtain⟨⟨yk,yt,yi,yb⟩,ya,yc,yf⟩:=y
 unfold tv at *
 dsimp only at *
 clear hp hq hc
 go_enter func95,ntmps95
 go_upto_region 2 with(go_at_call 32;(with_reducible refine(cl _ ((z1z _ W).alloc (z0z _) _)).mono ?_);rintro e w4 ⟨rfl,b4⟩;clear cl)
 have T2:Gz W (w4.alloc (.cells #[.int .i64 yk,.int .i64 ya,.string yt,.int .i64 yi,.int .u64 yb] 71)) cb w4.heap.size v b1 b2 i o t1 t2 #[.int .i64 yk,.int .i64 ya,.string yt,.int .i64 yi,.int .u64 yb]:=by
  have bA:Below W.heap.size W (W.alloc (.cells #[.int .i64 0,.int .i64 0,.string ⟨#[]⟩,.int .i64 0,.int .u64 0] 71)):=(z1z _ W).alloc (z0z _) _
  have bB:Below w4.heap.size w4 (w4.alloc (.cells #[.int .i64 yk,.int .i64 ya,.string yt,.int .i64 yi,.int .u64 yb] 71)):=(z1z _ _).alloc (z0z _) _
  have z4:=b4.size
  rw[z5z] at z4
  have bW:Below W.heap.size W w4:=bA.trans (b4.mono bA.size)
  refine⟨AY (AY HC.out bW) bB,It.AL.of_below (bW.trans (bB.mono bW.size)),AY (AY (z3z W _) b4) bB,z3z w4 _⟩
 have hnt:cb<w4.heap.size:=by have z4:=b4.size;rw[z5z] at z4;omega
 have hne:W.heap.size<w4.heap.size:=by have z4:=b4.size;rw[z5z] at z4;omega
 generalize w4.alloc (.cells #[.int .i64 yk,.int .i64 ya,.string yt,.int .i64 yi,.int .u64 yb] 71)=W2 at *
 generalize w4.heap.size=nt at *
 clear b4
 have x0:W2.cell? ⟨nt,0,none⟩=some (.int .i64 yk):=AO T2.tok 0
 have x1:W2.cell? ⟨nt,1,none⟩=some (.int .i64 ya):=AO T2.tok 1
 have x2:W2.cell? ⟨nt,2,none⟩=some (.string yt):=AO T2.tok 2
 have x3:W2.cell? ⟨nt,3,none⟩=some (.int .i64 yi):=AO T2.tok 3
 have x4:W2.cell? ⟨nt,4,none⟩=some (.int .u64 yb):=AO T2.tok 4
 have T2':=hid T2
 clear T2
 have u1:¬nt=cb:=by omega
 have u2:¬cb=nt:=by omega
 have u3:¬W.heap.size=cb:=by omega
 have u4:¬cb=W.heap.size:=by omega
 have u5:¬W.heap.size=nt:=by omega
 have u6:¬nt=W.heap.size:=by omega
 cases p
 all_goals (
  go_upto_region 4 with(go_at_call 51;(with_reducible refine(co _).mono ?_);rintro e w5 ⟨rfl,b5⟩;clear co x0 x1 x2 x3 x4;(have T3:=T2'.out.below b5);(have c4:w5.cell? ⟨cb,4,none⟩=some (.int .i64 o):=AO T3.top 4);(have z4:=Bj T3.top 4);(have T3':=hid T3);clear T3 b5))
 all_goals (first
  | ((have T4:Gz W w5 cb nt v b1 b2 i o1 t1 t2 #[.int .i64 yk,.int .i64 ya,.string yt,.int .i64 yi,.int .u64 yb]:=(by rw[ho1];exact T3'.out));(have T4':=hid T4);clear T4 c4 z4 T3' T2' ho1;(generalize w5=w6 at *))
  | ((have T4:Gz W (w5.setCell ⟨cb,4,none⟩ (.int .i64 (o+1))) cb nt v b1 b2 i o1 t1 t2 #[.int .i64 yk,.int .i64 ya,.string yt,.int .i64 yi,.int .u64 yb]:=(by rw[ho1];exact T3'.out.setO hl u1 _));(have T4':=hid T4);clear T4 c4 z4 T3' T2' ho1;(generalize w5.setCell ⟨cb,4,none⟩ (.int .i64 (o+1))=w6 at *)))
 all_goals (
  (have T4:=T4'.out)
  (have x0:w6.cell? ⟨nt,0,none⟩=some (.int .i64 yk):=AO T4.tok 0)
  (have x1:w6.cell? ⟨nt,1,none⟩=some (.int .i64 ya):=AO T4.tok 1)
  (have x2:w6.cell? ⟨nt,2,none⟩=some (.string yt):=AO T4.tok 2)
  (have x3:w6.cell? ⟨nt,3,none⟩=some (.int .i64 yi):=AO T4.tok 3)
  (have x4:w6.cell? ⟨nt,4,none⟩=some (.int .u64 yb):=AO T4.tok 4)
  clear T4
  cases q)
 all_goals (
  go_upto_region 6 with(go_at_call 133;(with_reducible refine(cx _).mono ?_);rintro e w7 ⟨rfl,b7⟩;clear cx x0 x1 x2 x3 x4;(have T5:=T4'.out.below b7);(have c4:w7.cell? ⟨cb,4,none⟩=some (.int .i64 o1):=AO T5.top 4);(have z4:=Bj T5.top 4);(have T5':=hid T5);clear T5 b7 T4'))
 all_goals (first
  | ((have T6:Gz W w7 cb nt v b1 b2 i o2 t1 t2 #[.int .i64 yk,.int .i64 ya,.string yt,.int .i64 yi,.int .u64 yb]:=(by rw[ho2];exact T5'.out));(have T6':=hid T6);clear T6 c4 z4 T5' ho2;(generalize w7=w8 at *))
  | ((have T6:Gz W (w7.setCell ⟨cb,4,none⟩ (.int .i64 (o1-1))) cb nt v b1 b2 i o2 t1 t2 #[.int .i64 yk,.int .i64 ya,.string yt,.int .i64 yi,.int .u64 yb]:=(by rw[ho2];exact T5'.out.setO hl u1 _));(have T6':=hid T6);clear T6 c4 z4 T5' ho2;(generalize w7.setCell ⟨cb,4,none⟩ (.int .i64 (o1-1))=w8 at *)))
 all_goals (
  (have T6:=T6'.out)
  (have x0:w8.cell? ⟨nt,0,none⟩=some (.int .i64 yk):=AO T6.tok 0)
  (have x1:w8.cell? ⟨nt,1,none⟩=some (.int .i64 ya):=AO T6.tok 1)
  (have x2:w8.cell? ⟨nt,2,none⟩=some (.string yt):=AO T6.tok 2)
  (have x3:w8.cell? ⟨nt,3,none⟩=some (.int .i64 yi):=AO T6.tok 3)
  (have x4:w8.cell? ⟨nt,4,none⟩=some (.int .u64 yb):=AO T6.tok 4)
  (have c3:w8.cell? ⟨cb,3,none⟩=some (.int .i64 i):=AO T6.top 3)
  (have z3:=Bj T6.top 3)
  (have ec:=AO T6.res)
  (have ef:=Bj T6.res)
  clear T6
  go_wp2
  (have T7:=T6'.out.setI hl u1 (i+1))
  refine bodyPost_ret (Kc rfl _ _ W.heap.size _ _ _ _ _ (0,0) rfl (M8 T7.res _ _ _ _ _)) rfl ?_
  refine⟨rfl,?_,?_⟩
  ·exact QC T7.upd (.inr ⟨z0z _,(z6z.1 T7.res).1⟩) _ _ _ _ _
  ·exact(dG u4 _ _ _ _ _).trans T7.top)
section
variable {W w':World} {cb i:Nat} {Ys:List Yd} {s:Cs} {v:Value} {t f:Ci} {y:Yd} {e:Ending}
theorem Cu.next(h:Cu W cb Ys s i v t)(hy:look s=.ok y):i<(good Ys).length/\(good Ys)[i]? = some y:=by
 by_cases hi:i<(good Ys).length
 ·refine⟨hi,?_⟩
  rw[(h.in hi).1] at hy
  split at hy
  ·cases hy
  ·cases hy
   exact List.getElem?_eq_getElem hi
 ·have hle:=h.le
  rw[h.end (by omega)] at hy
  cases hy
theorem rV(h:Cv W cb Ys v s)(hy:look s=.ok y):Calls prog 95 #[.pointer (some ⟨cb,0,none⟩)] W λe w'=>e=.returned (tv y.t y.a)/\It.AL (λk=>k=cb) W w'/\Cv w' cb Ys v (behind y s):=by
 have hh:=h.cur
 obtain⟨i,t,h⟩:=h
 obtain⟨hi,hg⟩:=h.next hy
 have hlo:=h.lo
 have hhi:=h.hi
 have hlen:=h.len
 refine(ABX W cb v _ _ i s.o _ _ y _ _ rfl rfl h.top _ _ rfl rfl ?_ ?_ ?_ (λw1 hB=>look_ok (hh.below hB) hy)).mono ?_
 ·rw[z10z];omega
 ·rw[z10z];split <;> omega
 ·rw[z10z];omega
 ·rintro e w' ⟨rfl,hu,ht⟩
  have hr:(behind y s).r=Ys.drop (i+1):=by
   unfold behind
   rw[h.at']
   simp
  have ho:(behind y s).o=(if J8 y.t=true then (if Gm y.t=true then s.o+1 else s.o)-1 else (if Gm y.t=true then s.o+1 else s.o)):=by
   unfold behind
   cases Gm y.t <;> cases J8 y.t <;> simp
  refine⟨rfl,hu,i+1,t,?_⟩
  refine⟨?_,Bq h.row (λk e=>hu.block k (h.row.lt k e).2 (h.own k e)),h.own,hr,by omega,?_,?_,h.all⟩
  ·rw[ht,ho]
   rfl
  ·rw[ho]
   cases Gm y.t <;> cases J8 y.t <;> simp <;> omega
  ·rw[ho]
   cases Gm y.t <;> cases J8 y.t <;> simp <;> omega
theorem qH(h:KV W cb Ys s)(hy:look s=.error f):Calls prog 95 #[.pointer (some ⟨cb,0,none⟩)] W λe w'=>Err W cb f e w':=by
 have cl:∀w1,Below W.heap.size W w1->Calls prog 32 #[.pointer (some ⟨cb,0,none⟩)] w1 λe w'=>Err W cb f e w':=λw1 hB=>(aT (h.below hB) hy).mono λe w' he=>he.from hB
 clear h hy
 go_enter func95,ntmps95
 go_wp2_with (go_at_call 32;(with_reducible refine(cl _ ((z1z _ W).alloc (z0z _) _)).mono ?_);rintro e w4 ⟨he,ht,hu⟩;clear cl;(unfold Aq fv at he);subst he)
 exact⟨rfl,rfl,ht,hu⟩
end
structure Cx (W0 W:World) (cb:Nat) (Ys:List Yd) (v:Value) (s:Cs):Prop where
 cv:Cv W cb Ys v s
 upd:It.AL (λk=>k=cb) W0 W
 lt:cb<W0.heap.size
 own:∀k,v.ownBlock=some k->k<W0.heap.size
section
variable {W0 W w':World} {cb:Nat} {Ys:List Yd} {v:Value} {s s':Cs} {f:Ci} {y:Yd} {e:Ending}
theorem Cx.cur(h:Cx W0 W cb Ys v s):KV W cb Ys s:=h.cv.cur
theorem Cx.ltW(h:Cx W0 W cb Ys v s):cb<W.heap.size:=Nat.lt_of_lt_of_le h.lt h.upd.size
theorem Cx.start(h:Cv W cb Ys v s):Cx W W cb Ys v s:=by
 have hh:=h
 obtain⟨i,t,h⟩:=h
 exact⟨hh,It.AL.refl _ _,h.lt,λk e=>(h.row.lt k e).2⟩
theorem Cx.keep(h:Cx W0 W cb Ys v s)(hk:∀k,k<W0.heap.size->w'.heap[k]? = W.heap[k]?)(hU:It.AL (λk=>k=cb) W0 w'):Cx W0 w' cb Ys v s:=by
 obtain⟨i,t,c⟩:=h.cv
 exact⟨⟨i,t,(hk cb h.lt).trans c.top,Bq c.row (λk e=>hk k (h.own k e)),c.own,c.at',c.le,c.lo,c.hi,c.all⟩,hU,h.lt,h.own⟩
theorem Cx.below(h:Cx W0 W cb Ys v s)(hB:Below W.heap.size W w'):Cx W0 w' cb Ys v s:=h.keep (λk hk=>hB.block k (Nat.lt_of_lt_of_le hk h.upd.size)) (h.upd.trans' (It.AL.of_below hB))
theorem Cx.five(h:Cx W0 W cb Ys v s){gb:Nat}(h1:W0.heap.size<=gb)(h2:gb<W.heap.size)(v0 v1 v2 v3 v4:Value):Cx W0 (((((W.setCell ⟨gb,0,none⟩ v0).setCell ⟨gb,1,none⟩ v1).setCell ⟨gb,2,none⟩ v2).setCell ⟨gb,3,none⟩ v3).setCell ⟨gb,4,none⟩ v4) cb Ys v s:=
 h.keep (λk hk=>dG (by omega) _ _ _ _ _) (QC h.upd (.inr ⟨h1,h2⟩) _ _ _ _ _)
theorem Cx.alloc(h:Cx W0 W cb Ys v s)(o:Obj):Cx W0 (W.alloc o) cb Ys v s:=h.below ((z1z _ W).alloc (z0z _) _)
theorem Cx.drew(h:Cx W0 W cb Ys v s):Cx W0 W.drew cb Ys v s:=h.below (z1z _ W).drew
theorem Cx.err(h:Cx W0 W cb Ys v s)(he:Err W cb f e w'):Err W0 cb f e w':=⟨he.1,he.2.1,h.upd.trans' he.2.2⟩
theorem AB9(h:Cx W0 W cb Ys v s)(hy:look s=.ok y):Calls prog 32 #[(Value.pointer (some ⟨cb,0,none⟩))] W λe w'=>e=.returned (tv y.t y.a)/\Cx W0 w' cb Ys v s/\It.AL (λk=>k=cb) W w':=
 (look_ok h.cur hy).mono λe w' he=>⟨he.1,h.below he.2,It.AL.of_below he.2⟩
theorem QK(h:Cx W0 W cb Ys v s)(hy:look s=.error f):Calls prog 32 #[(Value.pointer (some ⟨cb,0,none⟩))] W λe w'=>Err W0 cb f e w':=
 (aT h.cur hy).mono λe w' he=>h.err he
theorem UC(h:Cx W0 W cb Ys v s)(hy:look s=.ok y):Calls prog 95 #[(Value.pointer (some ⟨cb,0,none⟩))] W λe w'=>e=.returned (tv y.t y.a)/\Cx W0 w' cb Ys v (behind y s)/\It.AL (λk=>k=cb) W w':=
 (rV h.cv hy).mono λe w' he=>⟨he.1,⟨he.2.2,h.upd.trans' he.2.1,h.lt,h.own⟩,he.2.1⟩
theorem kY(h:Cx W0 W cb Ys v s)(hy:look s=.error f):Calls prog 95 #[(Value.pointer (some ⟨cb,0,none⟩))] W λe w'=>Err W0 cb f e w':=
 (qH h.cur hy).mono λe w' he=>h.err he
theorem VY(h:Cx W0 W cb Ys v s)(hy:look s=.ok y)(g:Nat)(zs:List ByteArray)(hn:zs.length<=10)(hz:∀j,j<zs.length->W.cell? ⟨g,j,none⟩=some (.string (zs.getD j ByteArray.empty)))(hg:g<W.heap.size):Calls prog 33 #[(Value.pointer (some ⟨cb,0,none⟩)),.slice (some ⟨g,0,none⟩) zs.length zs.length] W λe w'=>e=.returned (.bool (z7z zs (AP y.t)))/\Cx W0 w' cb Ys v s/\It.AL (λk=>k=cb) W w':=by
 have cl:=look_ok h.cur hy
 have cf:=JM y.t y.a
 have cc:∀w1,Below W.heap.size W w1->Calls prog 52 #[.slice (some ⟨g,0,none⟩) zs.length zs.length,.string (AP y.t)] w1 λe w'=>e=.returned (.bool (z7z zs (AP y.t)))/\w'=w1:=by
  intro w1 hB
  have:=Tryz.slices_Contains_string g 0 zs.length zs.length zs (AP y.t) w1 (z0z _) (by omega) (λj hj=>by rw[Nat.zero_add];exact(hB.cell (p:=⟨g,j,none⟩) hg).trans (hz j hj))
  rwa [List.take_of_length_le (z0z _)] at this
 have HH:=hid h
 generalize z7z zs (AP y.t)=R at *
 generalize zs.length=n at *
 generalize AP y.t=x at *
 unfold tv at *
 clear h hz hn hy
 go_enter func33,ntmps33
 go_wp2_with (first|(go_at_call 32;(with_reducible refine cl.mono ?_);rintro e w2 ⟨rfl,b2⟩;clear cl)|(go_at_call 53;(with_reducible refine(cf _).mono ?_);rintro e w3 ⟨rfl,b3⟩;clear cf;(have hB:=b2.trans (b3.mono b2.size));clear b2 b3)|(go_at_call 52;(with_reducible refine(cc _ hB).mono ?_);rintro e w4 ⟨rfl,hw⟩;(have hw':=hw.symm);subst hw';clear hw cc))
 go_ret
 exact⟨rfl,HH.out.below hB,It.AL.of_below hB⟩
theorem ACQ(h:Cx W0 W cb Ys v s)(hy:look s=.error f)(z:Value):Calls prog 33 #[(Value.pointer (some ⟨cb,0,none⟩)),z] W λe w'=>Err W0 cb f e w':=by
 have cl:=QK h hy
 clear h hy
 go_enter func33,ntmps33
 go_wp2_with (go_at_call 32;(with_reducible refine cl.mono ?_);rintro e w4 ⟨he,ht,hu⟩;clear cl;(unfold Aq fv at he);subst he)
 exact⟨rfl,rfl,ht,hu⟩
theorem YL(h:Cx W0 W cb Ys v s)(hy:look s=.ok y)(g:Nat)(k:ByteArray)(hz:W.cell? ⟨g,0,none⟩=some (.string k)):Calls prog 33 #[(Value.pointer (some ⟨cb,0,none⟩)),.slice (some ⟨g,0,none⟩) 1 1] W λe w'=>e=.returned (.bool (decide (AP y.t=k)))/\Cx W0 w' cb Ys v s/\It.AL (λk=>k=cb) W w':=by
 have hc:z7z [k] (AP y.t)=decide (AP y.t=k):=by
  cases hd:decide (AP y.t=k) with
  | true=>exact(z8z _ _).2 (by simp[of_decide_eq_true hd])
  | false=>
   cases hb:z7z [k] (AP y.t) with
   | false=>rfl
   | true=>
    have:=(z8z _ _).1 hb
    simp at this
    exact absurd this (of_decide_eq_false hd)
 rw[<- hc]
 refine VY h hy g [k] (by simp) ?_ (z11z W _ hz)
 intro j hj
 have:j=0:=by simpa using hj
 subst this
 exact hz
theorem Yi(h:Cx W0 W cb Ys v s)(hy:look s=.ok y)(g:Nat)(k l:ByteArray)(hz:W.cell? ⟨g,0,none⟩=some (.string k))(hz2:W.cell? ⟨g,1,none⟩=some (.string l)):Calls prog 33 #[(Value.pointer (some ⟨cb,0,none⟩)),.slice (some ⟨g,0,none⟩) 2 2] W λe w'=>e=.returned (.bool (decide (AP y.t=k\/AP y.t=l)))/\Cx W0 w' cb Ys v s/\It.AL (λk=>k=cb) W w':=by
 have hc:z7z [k,l] (AP y.t)=decide (AP y.t=k\/AP y.t=l):=by
  cases hd:decide (AP y.t=k\/AP y.t=l) with
  | true=>exact(z8z _ _).2 (by simpa using of_decide_eq_true hd)
  | false=>
   cases hb:z7z [k,l] (AP y.t) with
   | false=>rfl
   | true=>
    have:=(z8z _ _).1 hb
    simp at this
    exact absurd this (of_decide_eq_false hd)
 rw[<- hc]
 refine VY h hy g [k,l] (by simp) ?_ (z11z W _ hz)
 intro j hj
 match j,hj with
 | 0,_=>exact hz
 | 1,_=>exact hz2
theorem gN{x t:ByteArray}(h:¬x=t):(x.toList==t.toList)=false:=by
 cases hb:(x.toList==t.toList) with
 | false=>rfl
 | true=>
  have e:x.toList=t.toList:=eq_of_beq hb
  rw[ByteArray.toList_eq,ByteArray.toList_eq] at e
  refine absurd ?_ h
  cases x
  cases t
  congr
  exact Array.toList_inj.1 e
theorem LK(h:Cx W0 W cb Ys v s)(hy:look s=.ok y)(t:ByteArray)(ht:AP y.t=t):Calls prog 54 #[(Value.pointer (some ⟨cb,0,none⟩)),.string t] W λe w'=>e=.returned (tv y.t y.a)/\Cx W0 w' cb Ys v (behind y s)/\It.AL (λk=>k=cb) W w':=by
 have cl:∀w1,Below W.heap.size W w1->Calls prog 32 #[(Value.pointer (some ⟨cb,0,none⟩))] w1 λe w'=>e=.returned (tv y.t y.a)/\Below w1.heap.size w1 w':=λw1 hB=>look_ok (h.below hB).cur hy
 have cf:=JM y.t y.a
 have ck:∀w1,Below W.heap.size W w1->Calls prog 95 #[(Value.pointer (some ⟨cb,0,none⟩))] w1 λe w'=>e=.returned (tv y.t y.a)/\Cx W0 w' cb Ys v (behind y s)/\It.AL (λk=>k=cb) w1 w':=λw1 hB=>UC (h.below hB) hy
 rw[ht] at cf
 have kk:(t.toList==t.toList)=true:=by simp
 have hl:=h.ltW
 have HH:=hid h
 unfold tv at *
 clear h
 go_enter func54,ntmps54
 go_upto_region 2 with(go_at_call 32;(with_reducible refine(cl _ ((z1z _ W).alloc (z0z _) _)).mono ?_);rintro e w2 ⟨rfl,b2⟩;clear cl)
 have z2:=b2.size
 rw[z5z] at z2
 have bA:Below W.heap.size W (W.alloc (.cells #[.int .i64 0,.int .i64 0,.string ⟨#[]⟩,.int .i64 0,.int .u64 0] 71)):=(z1z _ W).alloc (z0z _) _
 have bB:Below w2.heap.size w2 (w2.alloc (.cells #[.int .i64 y.t.kind,.int .i64 y.a,.string y.t.text,.int .i64 y.t.int,.int .u64 y.t.bits] 71)):=(z1z _ _).alloc (z0z _) _
 have bW:Below W.heap.size W w2:=bA.trans (b2.mono bA.size)
 have hB2:Below W.heap.size W (w2.alloc (.cells #[.int .i64 y.t.kind,.int .i64 y.a,.string y.t.text,.int .i64 y.t.int,.int .u64 y.t.bits] 71)):=bW.trans (bB.mono bW.size)
 have q0:=AY (AY (z3z W _) b2) bB
 have q1:=z3z w2 (.cells #[.int .i64 y.t.kind,.int .i64 y.a,.string y.t.text,.int .i64 y.t.int,.int .u64 y.t.bits] 71)
 clear bA bB bW b2
 generalize w2.alloc (.cells #[.int .i64 y.t.kind,.int .i64 y.a,.string y.t.text,.int .i64 y.t.int,.int .u64 y.t.bits] 71)=W2 at *
 generalize w2.heap.size=nt at *
 have x0:W2.cell? ⟨nt,0,none⟩=some (.int .i64 y.t.kind):=AO q1 0
 have x1:W2.cell? ⟨nt,1,none⟩=some (.int .i64 y.a):=AO q1 1
 have x2:W2.cell? ⟨nt,2,none⟩=some (.string y.t.text):=AO q1 2
 have x3:W2.cell? ⟨nt,3,none⟩=some (.int .i64 y.t.int):=AO q1 3
 have x4:W2.cell? ⟨nt,4,none⟩=some (.int .u64 y.t.bits):=AO q1 4
 have HQ:=hid (z2z hB2 (z2z q0 q1))
 clear hB2 q0 q1
 go_wp2_with (first|(go_at_call 53;(with_reducible refine(cf _).mono ?_);rintro e w3 ⟨rfl,b3⟩;clear cf;(have hB3:=HQ.out.1.trans (b3.mono HQ.out.1.size));(have q3:=HQ.out.2.2);(have q3':=AY q3 b3);(have x1:w3.cell? ⟨nt,1,none⟩=some (.int .i64 y.a):=AO q3' 1);(have HB3:=hid (z2z hB3 (AY HQ.out.2.1 b3)));clear hB3 b3 q3 q3')|(go_at_call 95;(with_reducible refine(ck _ HB3.out.1).mono ?_);rintro e w5 ⟨rfl,hx,hu⟩;clear ck;(have r0:=(hu.block _ (z6z.1 HB3.out.2).1 (by omega)).trans HB3.out.2);(have ec:=AO r0);(have ef:=Bj r0);(have HR:=hid (z2z r0 (z2z hx ((It.AL.of_below HB3.out.1).trans' hu))));clear r0 hx hu))
 obtain⟨r0,hx,hu⟩:=HR.out
 have hlt:=(z6z.1 r0).1
 refine bodyPost_ret (Kc rfl _ _ W.heap.size _ _ _ _ _ (0,0) rfl (M8 r0 _ _ _ _ _)) rfl ?_
 exact⟨rfl,hx.five HH.out.upd.size hlt _ _ _ _ _,QC hu (.inr ⟨z0z _,hlt⟩) _ _ _ _ _⟩
theorem iX(h:Cx W0 W cb Ys v s)(hy:look s=.ok y)(t:ByteArray)(ht:¬AP y.t=t):Calls prog 54 #[(Value.pointer (some ⟨cb,0,none⟩)),.string t] W λe w'=>Err W0 cb (70,y.a) e w':=by
 have cl:∀w1,Below W.heap.size W w1->Calls prog 32 #[(Value.pointer (some ⟨cb,0,none⟩))] w1 λe w'=>e=.returned (tv y.t y.a)/\Below w1.heap.size w1 w':=λw1 hB=>look_ok (h.below hB).cur hy
 have cf:=JM y.t y.a
 have cr:∀w1,Below W.heap.size W w1->Calls prog 50 #[(Value.pointer (some ⟨cb,0,none⟩)),fv (70,y.a)] w1 λe w'=>Err W0 cb (70,y.a) e w':=by
  intro w1 hB
  have hx:=h.below hB
  obtain⟨i,t,hc⟩:=hx.cv
  exact(Pn hc _).mono λe w' he=>hx.err he
 unfold fv at cr
 have kk:=gN ht
 clear ht
 generalize AP y.t=x at *
 have hl:=h.ltW
 have HH:=hid h
 unfold tv at *
 clear h
 go_enter func54,ntmps54
 go_upto_region 2 with(go_at_call 32;(with_reducible refine(cl _ ((z1z _ W).alloc (z0z _) _)).mono ?_);rintro e w2 ⟨rfl,b2⟩;clear cl)
 have z2:=b2.size
 rw[z5z] at z2
 have bA:Below W.heap.size W (W.alloc (.cells #[.int .i64 0,.int .i64 0,.string ⟨#[]⟩,.int .i64 0,.int .u64 0] 71)):=(z1z _ W).alloc (z0z _) _
 have bB:Below w2.heap.size w2 (w2.alloc (.cells #[.int .i64 y.t.kind,.int .i64 y.a,.string y.t.text,.int .i64 y.t.int,.int .u64 y.t.bits] 71)):=(z1z _ _).alloc (z0z _) _
 have bW:Below W.heap.size W w2:=bA.trans (b2.mono bA.size)
 have hB2:Below W.heap.size W (w2.alloc (.cells #[.int .i64 y.t.kind,.int .i64 y.a,.string y.t.text,.int .i64 y.t.int,.int .u64 y.t.bits] 71)):=bW.trans (bB.mono bW.size)
 have q0:=AY (AY (z3z W _) b2) bB
 have q1:=z3z w2 (.cells #[.int .i64 y.t.kind,.int .i64 y.a,.string y.t.text,.int .i64 y.t.int,.int .u64 y.t.bits] 71)
 clear bA bB bW b2
 generalize w2.alloc (.cells #[.int .i64 y.t.kind,.int .i64 y.a,.string y.t.text,.int .i64 y.t.int,.int .u64 y.t.bits] 71)=W2 at *
 generalize w2.heap.size=nt at *
 have x0:W2.cell? ⟨nt,0,none⟩=some (.int .i64 y.t.kind):=AO q1 0
 have x1:W2.cell? ⟨nt,1,none⟩=some (.int .i64 y.a):=AO q1 1
 have x2:W2.cell? ⟨nt,2,none⟩=some (.string y.t.text):=AO q1 2
 have x3:W2.cell? ⟨nt,3,none⟩=some (.int .i64 y.t.int):=AO q1 3
 have x4:W2.cell? ⟨nt,4,none⟩=some (.int .u64 y.t.bits):=AO q1 4
 have HQ:=hid (z2z hB2 (z2z q0 q1))
 clear hB2 q0 q1
 go_wp2_with (first|(go_at_call 53;(with_reducible refine(cf _).mono ?_);rintro e w3 ⟨rfl,b3⟩;clear cf;(have hB3:=HQ.out.1.trans (b3.mono HQ.out.1.size));(have q3:=HQ.out.2.2);(have q3':=AY q3 b3);(have x1:w3.cell? ⟨nt,1,none⟩=some (.int .i64 y.a):=AO q3' 1);(have HB3:=hid (z2z hB3 (AY HQ.out.2.1 b3)));clear hB3 b3 q3 q3')|(go_at_call 50;(with_reducible refine(cr _ HB3.out.1).mono ?_);rintro e w5 ⟨he,ht,hu⟩;clear cr;(unfold Aq fv at he);subst he))
 exact⟨rfl,rfl,ht,hu⟩
theorem ABY(h:Cx W0 W cb Ys v s)(hy:look s=.error f)(t:ByteArray):Calls prog 54 #[(Value.pointer (some ⟨cb,0,none⟩)),.string t] W λe w'=>Err W0 cb f e w':=by
 have cl:∀w1,Below W.heap.size W w1->Calls prog 32 #[(Value.pointer (some ⟨cb,0,none⟩))] w1 λe w'=>Err W0 cb f e w':=λw1 hB=>QK (h.below hB) hy
 clear h hy
 go_enter func54,ntmps54
 go_wp2_with (go_at_call 32;(with_reducible refine(cl _ ((z1z _ W).alloc (z0z _) _)).mono ?_);rintro e w4 ⟨he,ht,hu⟩;clear cl;(unfold Aq fv at he);subst he)
 exact⟨rfl,rfl,ht,hu⟩
theorem rE(h:Cx W0 W cb Ys v s)(hy:look s=.ok y)(ht:y.t.kind=1):Calls prog 55 #[(Value.pointer (some ⟨cb,0,none⟩))] W λe w'=>e=.returned (tv y.t y.a)/\Cx W0 w' cb Ys v (behind y s)/\It.AL (λk=>k=cb) W w':=by
 have cl:∀w1,Below W.heap.size W w1->Calls prog 32 #[(Value.pointer (some ⟨cb,0,none⟩))] w1 λe w'=>e=.returned (tv y.t y.a)/\Below w1.heap.size w1 w':=λw1 hB=>look_ok (h.below hB).cur hy
 have ck:∀w1,Below W.heap.size W w1->Calls prog 95 #[(Value.pointer (some ⟨cb,0,none⟩))] w1 λe w'=>e=.returned (tv y.t y.a)/\Cx W0 w' cb Ys v (behind y s)/\It.AL (λk=>k=cb) w1 w':=λw1 hB=>UC (h.below hB) hy
 have kk:(y.t.kind==1)=true:=by simp[ht]
 clear ht
 have hl:=h.ltW
 have HH:=hid h
 unfold tv at *
 clear h
 go_enter func55,ntmps55
 go_upto_region 2 with(go_at_call 32;(with_reducible refine(cl _ ((z1z _ W).alloc (z0z _) _)).mono ?_);rintro e w2 ⟨rfl,b2⟩;clear cl)
 have z2:=b2.size
 rw[z5z] at z2
 have bA:Below W.heap.size W (W.alloc (.cells #[.int .i64 0,.int .i64 0,.string ⟨#[]⟩,.int .i64 0,.int .u64 0] 71)):=(z1z _ W).alloc (z0z _) _
 have bB:Below w2.heap.size w2 (w2.alloc (.cells #[.int .i64 y.t.kind,.int .i64 y.a,.string y.t.text,.int .i64 y.t.int,.int .u64 y.t.bits] 71)):=(z1z _ _).alloc (z0z _) _
 have bW:Below W.heap.size W w2:=bA.trans (b2.mono bA.size)
 have hB2:Below W.heap.size W (w2.alloc (.cells #[.int .i64 y.t.kind,.int .i64 y.a,.string y.t.text,.int .i64 y.t.int,.int .u64 y.t.bits] 71)):=bW.trans (bB.mono bW.size)
 have q0:=AY (AY (z3z W _) b2) bB
 have q1:=z3z w2 (.cells #[.int .i64 y.t.kind,.int .i64 y.a,.string y.t.text,.int .i64 y.t.int,.int .u64 y.t.bits] 71)
 clear bA bB bW b2
 generalize w2.alloc (.cells #[.int .i64 y.t.kind,.int .i64 y.a,.string y.t.text,.int .i64 y.t.int,.int .u64 y.t.bits] 71)=W2 at *
 generalize w2.heap.size=nt at *
 have x0:W2.cell? ⟨nt,0,none⟩=some (.int .i64 y.t.kind):=AO q1 0
 have x1:W2.cell? ⟨nt,1,none⟩=some (.int .i64 y.a):=AO q1 1
 have x2:W2.cell? ⟨nt,2,none⟩=some (.string y.t.text):=AO q1 2
 have x3:W2.cell? ⟨nt,3,none⟩=some (.int .i64 y.t.int):=AO q1 3
 have x4:W2.cell? ⟨nt,4,none⟩=some (.int .u64 y.t.bits):=AO q1 4
 have HQ:=hid (z2z hB2 (z2z q0 q1))
 have HB3:=hid (z2z hB2 q0)
 clear hB2 q0 q1
 go_wp2_with ((go_at_call 95;(with_reducible refine(ck _ HB3.out.1).mono ?_);rintro e w5 ⟨rfl,hx,hu⟩;clear ck;(have r0:=(hu.block _ (z6z.1 HB3.out.2).1 (by omega)).trans HB3.out.2);(have ec:=AO r0);(have ef:=Bj r0);(have HR:=hid (z2z r0 (z2z hx ((It.AL.of_below HB3.out.1).trans' hu))));clear r0 hx hu))
 obtain⟨r0,hx,hu⟩:=HR.out
 have hlt:=(z6z.1 r0).1
 refine bodyPost_ret (Kc rfl _ _ W.heap.size _ _ _ _ _ (0,0) rfl (M8 r0 _ _ _ _ _)) rfl ?_
 exact⟨rfl,hx.five HH.out.upd.size hlt _ _ _ _ _,QC hu (.inr ⟨z0z _,hlt⟩) _ _ _ _ _⟩
theorem lJ(h:Cx W0 W cb Ys v s)(hy:look s=.ok y)(ht:¬y.t.kind=1):Calls prog 55 #[(Value.pointer (some ⟨cb,0,none⟩))] W λe w'=>Err W0 cb (70,y.a) e w':=by
 have cl:∀w1,Below W.heap.size W w1->Calls prog 32 #[(Value.pointer (some ⟨cb,0,none⟩))] w1 λe w'=>e=.returned (tv y.t y.a)/\Below w1.heap.size w1 w':=λw1 hB=>look_ok (h.below hB).cur hy
 have cr:∀w1,Below W.heap.size W w1->Calls prog 50 #[(Value.pointer (some ⟨cb,0,none⟩)),fv (70,y.a)] w1 λe w'=>Err W0 cb (70,y.a) e w':=by
  intro w1 hB
  have hx:=h.below hB
  obtain⟨i,t,hc⟩:=hx.cv
  exact(Pn hc _).mono λe w' he=>hx.err he
 unfold fv at cr
 have kk:(y.t.kind==1)=false:=by simp[ht]
 clear ht
 have hl:=h.ltW
 have HH:=hid h
 unfold tv at *
 clear h
 go_enter func55,ntmps55
 go_upto_region 2 with(go_at_call 32;(with_reducible refine(cl _ ((z1z _ W).alloc (z0z _) _)).mono ?_);rintro e w2 ⟨rfl,b2⟩;clear cl)
 have z2:=b2.size
 rw[z5z] at z2
 have bA:Below W.heap.size W (W.alloc (.cells #[.int .i64 0,.int .i64 0,.string ⟨#[]⟩,.int .i64 0,.int .u64 0] 71)):=(z1z _ W).alloc (z0z _) _
 have bB:Below w2.heap.size w2 (w2.alloc (.cells #[.int .i64 y.t.kind,.int .i64 y.a,.string y.t.text,.int .i64 y.t.int,.int .u64 y.t.bits] 71)):=(z1z _ _).alloc (z0z _) _
 have bW:Below W.heap.size W w2:=bA.trans (b2.mono bA.size)
 have hB2:Below W.heap.size W (w2.alloc (.cells #[.int .i64 y.t.kind,.int .i64 y.a,.string y.t.text,.int .i64 y.t.int,.int .u64 y.t.bits] 71)):=bW.trans (bB.mono bW.size)
 have q0:=AY (AY (z3z W _) b2) bB
 have q1:=z3z w2 (.cells #[.int .i64 y.t.kind,.int .i64 y.a,.string y.t.text,.int .i64 y.t.int,.int .u64 y.t.bits] 71)
 clear bA bB bW b2
 generalize w2.alloc (.cells #[.int .i64 y.t.kind,.int .i64 y.a,.string y.t.text,.int .i64 y.t.int,.int .u64 y.t.bits] 71)=W2 at *
 generalize w2.heap.size=nt at *
 have x0:W2.cell? ⟨nt,0,none⟩=some (.int .i64 y.t.kind):=AO q1 0
 have x1:W2.cell? ⟨nt,1,none⟩=some (.int .i64 y.a):=AO q1 1
 have x2:W2.cell? ⟨nt,2,none⟩=some (.string y.t.text):=AO q1 2
 have x3:W2.cell? ⟨nt,3,none⟩=some (.int .i64 y.t.int):=AO q1 3
 have x4:W2.cell? ⟨nt,4,none⟩=some (.int .u64 y.t.bits):=AO q1 4
 have HQ:=hid (z2z hB2 (z2z q0 q1))
 have HB3:=hid (z2z hB2 q0)
 clear hB2 q0 q1
 go_wp2_with ((go_at_call 50;(with_reducible refine(cr _ HB3.out.1).mono ?_);rintro e w5 ⟨he,ht,hu⟩;clear cr;(unfold Aq fv at he);subst he))
 exact⟨rfl,rfl,ht,hu⟩
theorem xU(h:Cx W0 W cb Ys v s)(hy:look s=.error f)  : Calls prog 55 #[(Value.pointer (some ⟨cb,0,none⟩))] W λe w'=>Err W0 cb f e w':=by
 have cl:∀w1,Below W.heap.size W w1->Calls prog 32 #[(Value.pointer (some ⟨cb,0,none⟩))] w1 λe w'=>Err W0 cb f e w':=λw1 hB=>QK (h.below hB) hy
 clear h hy
 go_enter func55,ntmps55
 go_wp2_with (go_at_call 32;(with_reducible refine(cl _ ((z1z _ W).alloc (z0z _) _)).mono ?_);rintro e w4 ⟨he,ht,hu⟩;clear cl;(unfold Aq fv at he);subst he)
 exact⟨rfl,rfl,ht,hu⟩
end
abbrev ptr(b:Nat):Value:=.pointer (some ⟨b,0,none⟩)
def EL(n:Nd)(k:Value):Array Value:=#[.int .i64 n.kind,.int .i64 n.a,.int .i64 0,.string n.text,.int .i64 n.int,.int .u64 n.bits,k]
def Ac(W:World):(Nat->Prop)->List Nat->Fo->Prop
 | S,bs,.nil=>bs=[]
 | S,bs,.cons n ks r=>∃b bs' v bk,bs=b::bs'/\S b/\W.heap[b]? = some (.cells (EL n v) 77 (0,0))/\W.ownsRow 0 56 1 v bk.length (bk.map ptr)/\(∀k,v.ownBlock=some k->S k/\k≠b)/\Ac W (λk=>S k/\k≠b/\v.ownBlock≠some k) bk ks/\Ac W S bs' r
theorem Ac.mono{W:World}:∀ {f:Fo} {S S':Nat->Prop} {bs:List Nat},(∀k,S k->S' k)->Ac W S bs f->Ac W S' bs f
 | .nil,S,S',bs,hs,h=>h
 | .cons n ks r,S,S',bs,hs,h=>by
  obtain⟨b,bs',v,bk,h1,h2,h3,h4,h5,h6,h7⟩:=h
  exact⟨b,bs',v,bk,h1,hs b h2,h3,h4,λk e=>⟨hs k (h5 k e).1,(h5 k e).2⟩,Ac.mono (λk e=>⟨hs k e.1,e.2⟩) h6,Ac.mono hs h7⟩
theorem Ac.on{W W':World}:∀ {f:Fo} {S:Nat->Prop} {bs:List Nat},(∀k,S k->k<W.heap.size->W'.heap[k]? = W.heap[k]?)->Ac W S bs f->Ac W' S bs f
 | .nil,S,bs,hs,h=>h
 | .cons n ks r,S,bs,hs,h=>by
  obtain⟨b,bs',v,bk,h1,h2,h3,h4,h5,h6,h7⟩:=h
  exact⟨b,bs',v,bk,h1,h2,(hs b h2 (z6z.1 h3).1).trans h3,Bq h4 (λk e=>hs k (h5 k e).1 (h4.lt k e).2),h5,Ac.on (λk e=>hs k e.1) h6,Ac.on hs h7⟩
theorem Ac.lt{W:World}:∀ {f:Fo} {S:Nat->Prop} {bs:List Nat},Ac W S bs f->Ac W (λk=>S k/\k<W.heap.size) bs f
 | .nil,S,bs,h=>h
 | .cons n ks r,S,bs,h=>by
  obtain⟨b,bs',v,bk,h1,h2,h3,h4,h5,h6,h7⟩:=h
  exact⟨b,bs',v,bk,h1,⟨h2,(z6z.1 h3).1⟩,h3,h4,λk e=>⟨⟨(h5 k e).1,(h4.lt k e).2⟩,(h5 k e).2⟩,Ac.mono (λk e=>⟨⟨e.1.1,e.2⟩,e.1.2⟩) (Ac.lt h6),Ac.lt h7⟩
theorem Ac.app{W:World}:∀ {f g:Fo} {S:Nat->Prop} {bs cs:List Nat},Ac W S bs f->Ac W S cs g->Ac W S (bs++cs) (f.app g)
 | .nil,g,S,bs,cs,h,hg=>by
  have:bs=[]:=h
  subst this
  exact hg
 | .cons n ks r,g,S,bs,cs,h,hg=>by
  obtain⟨b,bs',v,bk,h1,h2,h3,h4,h5,h6,h7⟩:=h
  exact⟨b,bs'++cs,v,bk,by rw[h1];rfl,h2,h3,h4,h5,h6,Ac.app h7 hg⟩
theorem Ac.len{W:World}:∀ {f:Fo} {S:Nat->Prop} {bs:List Nat},Ac W S bs f->bs.length=f.len
 | .nil,S,bs,h=>by
  have:bs=[]:=h
  subst this
  rfl
 | .cons n ks r,S,bs,h=>by
  obtain⟨b,bs',v,bk,h1,h2,h3,h4,h5,h6,h7⟩:=h
  rw[h1]
  show bs'.length+1=r.len+1
  rw[Ac.len h7]
theorem Ac.below{W W':World}{S:Nat->Prop}{bs:List Nat}{f:Fo}(h:Ac W S bs f)(hB:Below W.heap.size W W'):Ac W' S bs f:=h.on (λk _ hk=>hB.block k hk)
theorem Ac.upd{W W':World}{cb m:Nat}{bs:List Nat}{f:Fo}(h:Ac W (λk=>m<=k) bs f)(hc:cb<m)(hU:It.AL (λk=>k=cb) W W'):Ac W' (λk=>m<=k) bs f:=h.on (λk e hk=>hU.block k hk (by omega))
theorem Sz{W:World}{g:Nat}{bs:List Nat}(h:W.heap[g]? = some (.cells (bs.map ptr).toArray 56 (0,0)))(hl:bs.length<=maxLen):W.ownsRow 0 56 1 (.slice (some ⟨g,0,none⟩) bs.length bs.length) bs.length (bs.map ptr):=
 ⟨by simp,.inr ⟨g,bs.length,_,rfl,Nat.zero_le _,h,z0z _,hl,by simp,by rw[Nat.mul_one];exact List.take_of_length_le (by simp)⟩⟩
theorem Ac.mk{W:World}{m b:Nat}{n:Nd}{v:Value}{bk:List Nat}{ks:Fo}(hm:m<=b)(hb:W.heap[b]? = some (.cells (EL n v) 77 (0,0)))(hr:W.ownsRow 0 56 1 v bk.length (bk.map ptr))(hv:∀k,v.ownBlock=some k->m<=k/\k≠b)(hk:Ac W (λk=>m<=k/\k≠b/\v.ownBlock≠some k) bk ks):Ac W (λk=>m<=k) [b] (Fo.one n ks):=
 ⟨b,[],v,bk,rfl,hm,hb,hr,hv,hk,rfl⟩
section
variable {W:World}
theorem Ri(k:Int)(y:Yd)(o:Option Addr)(l c:Nat)(W:World):Calls prog 31 #[.int .i64 k,tv y.t y.a,.slice o l c] W λe w'=>e=.returned (ptr (W.heap.size+1))/\Below W.heap.size W w'/\w'.heap[W.heap.size+1]? = some (.cells (EL (Ap k y) (.slice o l c)) 77 (0,0))/\w'.heap.size=W.heap.size+2:=by
 unfold tv
 go_enter func31,ntmps31
 go_wp2
 go_ret
 refine⟨rfl,((z1z _ W).alloc (z0z _) _).alloc (by simp) _,?_,by simp⟩
 have:=z3z (W.alloc (.cells #[.int .i64 y.t.kind,.int .i64 y.a,.string y.t.text,.int .i64 y.t.int,.int .u64 y.t.bits] 71)) (.cells (EL (Ap k y) (.slice o l c)) 77)
 rw[z5z] at this
 exact this
theorem Ns(k:Int)(y:Yd)(o:Option Addr)(l c:Nat)(W:World):Calls prog 56 #[.int .i64 k,tv y.t y.a,.slice o l c] W λe w'=>e=.returned (ptr (W.heap.size+1))/\Below W.heap.size W w'/\w'.heap[W.heap.size+1]? = some (.cells (EL (BD k y) (.slice o l c)) 77 (0,0))/\w'.heap.size=W.heap.size+2:=by
 unfold tv
 go_enter func56,ntmps56
 go_wp2
 go_ret
 refine⟨rfl,((z1z _ W).alloc (z0z _) _).alloc (by simp) _,?_,by simp⟩
 have:=z3z (W.alloc (.cells #[.int .i64 y.t.kind,.int .i64 y.a,.string y.t.text,.int .i64 y.t.int,.int .u64 y.t.bits] 71)) (.cells (EL (BD k y) (.slice o l c)) 77)
 rw[z5z] at this
 exact this
end
end Go.Proofs.YtjplieobnknnpaaGreatDoor.W.Tr

import Derived.Test.YtgchnkgolclmgaaGreatDoorJG
import Derived.Test.YtgchnkgolclmgaaGreatDoorSB
open List renaming mem_cons_self → aH
open Array renaming getElem?_eq_some_iff → dR
open Nat renaming le_refl → aL, le_trans → dQ, lt_of_lt_of_le → eU
open Go.World renaming alloc → bO, alloc_heap_new → dI
open Go.RowKit.Below renaming refl → bY, heap_setCell → gI
open Go.AllReadyH renaming cons → aY, nil → ay
open Go.Proofs.Tryz
open List renaming getElem_toArray → aW, getElem_cons_zero → aV, getElem_cons_succ → aU, setIfInBounds_toArray → aT, set_cons_zero → aS, set_cons_succ → aR
set_option maxRecDepth 1000000
set_option maxHeartbeats 8000000
namespace Go.Proofs.YtgchnkgolclmgaaGreatDoor.W.Tr
open Go.ChangeShapes Go.WideShapes Go.RowKit Go.Shelf
set_option linter.unusedVariables false
set_option linter.unusedSimpArgs false
section
variable {W0 W w':World} {rb b:Nat} {l:ByteArray} {st st':Se} {y y' z:Yd} {s s':Cs} {L L':List (Nat × Fo)} {p:Nt} {f:jv} {u:Value} {bk:List Nat} {nd:Nd} {ks fx:Fo}
theorem Rx.append{w2 w4:World}{x:Nat}{u':Value}(h:Rx W0 w2 rb l st y L)(hU:It.bL (λk=>k=rb) W w2)(hW:W0.heap.size<=W.heap.size)(hb:Bt W0.heap.size W b nd u bk ks)(hx:cZ w2 (λk=>W.heap.size<=k) [x] fx)
  (h2:w4.ownsRow W0.heap.size 40 1 u' (bk.length+1) (bk.map ptr++[ptr x])) (h3:(w2.alloc (.cells #[ptr x] 40)).grownBy w4 u.ownBlock) (h5:u'.ownBlock=u.ownBlock\/u'.ownBlock=some (w2.alloc (.cells #[ptr x] 40)).heap.size) :
  Rx W0 (w4.setCell ⟨b,6,none⟩ u') rb l st y [(b,Fo.one nd (ks.app fx))]:=by
 have hlr:=h.lt
 have hb2:=hb.upd h.lt hU
 have lb:=hb.lt
 have lu:∀k,u.ownBlock=some k->k<W.heap.size:=λk e=>(hb.row.lt k e).2
 have Nj:∀k,u.ownBlock=some k->W0.heap.size<=k:=λk e=>(hb.row.lt k e).1
 have z2:=hU.size
 have z3:(w2.alloc (.cells #[ptr x] 40)).heap.size=w2.heap.size+1:=World.size_alloc _ _
 have z4:=h3.size
 rw[z3] at z4 h5
 have keep:∀k,k<w2.heap.size->k≠b->u.ownBlock≠some k->(w4.setCell ⟨b,6,none⟩ u').heap[k]? = w2.heap[k]?:=by
  intro k hk hn hu
  rw[gI _ _ _ _ hn,h3.block k (by omega) (λe=>hu e.symm),Below.heap_alloc _ _ _ hk]
 have hlo:=hb.lo
 have ub:∀k,u'.ownBlock=some k->k≠b/\W0.heap.size<=k:=by
  intro k e
  rcases h5 with h5|h5
  ·rw[h5] at e
   exact⟨hb.ne k e,Nj k e⟩
  ·rw[h5] at e
   have:w2.heap.size+1=k:=Option.some.inj e
   omega
 have mE:It.bL (λk=>k=rb) W0 (w4.setCell ⟨b,6,none⟩ u'):=by
  have a1:=(h.alloc (.cells #[ptr x] 40)).upd
  have a2:=a1.grown h3 (λk e=>.inr ⟨Nj k e,by have:=lu k e;rw[World.size_alloc];omega⟩)
  exact a2.setCell (p:=⟨b,6,none⟩) (.inr ⟨hlo,by show b<w4.heap.size;omega⟩) u'
 have t4:w4.heap[b]? = some (.cells (oI nd u) 46 (0,0)):=by
  rw[h3.block b (by omega) (λe=>hb.ne b e.symm rfl),Below.heap_alloc _ _ _ (by omega)]
  exact hb2.top
 have t5:=aM (c:=[.int .i64 nd.kind,.int .i64 nd.a,.int .i64 0,.string nd.text,.int .i64 nd.int,.int .u64 nd.bits,u]) t4 6 u'
 have hBr:Bt W0.heap.size (w4.setCell ⟨b,6,none⟩ u') b nd u' (bk++[x]) (ks.app fx):=by
  refine⟨hlo,t5,?_,λk e=>(ub k e).1,?_⟩
  ·have:=bD (W':=w4.setCell ⟨b,6,none⟩ u') h2 (λk e=>gI _ _ _ _ (ub k e).1)
   simpa using this
  ·refine cZ.app ?_ ?_
   ·refine cZ.mono ?_ ((hb2.kids.lt).on (λk e hk=>keep k e.2 e.1.2.1 e.1.2.2))
    intro k e
    refine⟨e.1.1,e.1.2.1,?_⟩
    intro c
    rcases h5 with h5|h5
    ·exact e.1.2.2 (h5 ▸ c)
    ·rw[h5] at c
     have:w2.heap.size+1=k:=Option.some.inj c
     omega
   ·refine cZ.mono ?_ ((hx.lt).on (λk e hk=>keep k e.2 (by omega) (λc=>by have:=lu k c;omega)))
    intro k e
    refine⟨by omega,by omega,?_⟩
    intro c
    rcases h5 with h5|h5
    ·rw[h5] at c
     have:=lu k c
     omega
    ·rw[h5] at c
     have:w2.heap.size+1=k:=Option.some.inj c
     omega
 have hrw:=h.Ed
 refine⟨h.rd.on (keep rb hrw (by omega) (λc=>by have:=Nj rb c;omega)),h.sz,h.mb,mE,h.lt,?_⟩
 intro p hp
 simp at hp
 subst hp
 exact hBr.shut
theorem Rx.fV(h:Rx W0 W rb l st y L)(m:(b,Fo.one nd ks) ∈ L):W.cell? ⟨b,0,none⟩=some (.int .i64 nd.kind)/\W.cell? ⟨b,1,none⟩=some (.int .i64 nd.a)/\W.cell? ⟨b,3,none⟩=some (.string nd.text)/\∀j,W.frozen? ⟨b,j,none⟩=false:=by
 obtain⟨u,bk,hb⟩:=Bt.of (h.ts _ m)
 have h1:=aA hb.top
 exact⟨h1 0,h1 1,h1 3,aC hb.top⟩
theorem Rx.set{nd':Nd}(h:Rx W0 W rb l st y L)(m:(b,Fo.one nd ks) ∈ L)(j:Nat)(x:Value)(hn:∀u,(oI nd u).toList.set j x=(oI nd' u).toList):Rx W0 (W.setCell ⟨b,j,none⟩ x) rb l st y [(b,Fo.one nd' ks)]:=by
 obtain⟨u,bk,hb⟩:=Bt.of (h.ts _ m)
 have lb:=hb.lt
 have hlo:=hb.lo
 have hlr:=h.lt
 have keep:∀k,k≠b->(W.setCell ⟨b,j,none⟩ x).heap[k]? = W.heap[k]?:=λk hk=>gI _ _ _ _ hk
 have hU:=h.upd.setCell (p:=⟨b,j,none⟩) (.inr ⟨hlo,lb⟩) x
 have t5:=aM (c:=(oI nd u).toList) hb.top j x
 rw[hn u] at t5
 have hBr:Bt W0.heap.size (W.setCell ⟨b,j,none⟩ x) b nd' u bk ks:=
  ⟨hlo,t5,bD hb.row (λk e=>keep k (hb.ne k e)),hb.ne,hb.kids.on (λk e _=>keep k e.2.1)⟩
 refine⟨h.rd.on (keep rb (by omega)),h.sz,h.mb,hU,h.lt,?_⟩
 intro p hp
 simp at hp
 subst hp
 exact hBr.shut
theorem Rx.rW{k:Int}(h:y.t.kind≠4/\y.t.kind≠5)(hc:BJ y.t):(⟨k,y.a,y.t.text,0,0⟩:Nd)=jr k y:=by
 unfold jr
 rw[hc.1 h.1,hc.2.1 h.2]
end
structure Rt (W0 W:World) (rb:Nat) (l:ByteArray) (st:Se) (y:Yd) (L:List (Nat × Fo)) (M:List (Nat × Yd)):Prop where
 x:Rx W0 W rb l st y L
 tk:∀p ∈ M,W0.heap.size<=p.1/\W.heap[p.1]? = some (.cells (dA p.2) 36 (0,0))
section
variable {W0 W w':World} {rb b b1 b2 b3 tb:Nat} {l:ByteArray} {st st':Se} {y y' z:Yd} {s s':Cs} {L L':List (Nat × Fo)} {M M':List (Nat × Yd)} {p:Nt} {f:jv} {f1 f2 f3 ks fx:Fo} {nd:Nd} {g n:Nat}
theorem Rt.start(h:Rx W0 W rb l st y L):Rt W0 W rb l st y L []:=⟨h,by simp⟩
theorem Rt.tks(h:Rt W0 W rb l st y L M)(hU:It.bL (λk=>k=rb) W w'):∀p ∈ M,W0.heap.size<=p.1/\w'.heap[p.1]? = some (.cells (dA p.2) 36 (0,0)):=by
 intro p hp
 obtain⟨h1,h2⟩:=h.tk p hp
 have hl:=h.x.lt
 exact⟨h1,(hU.block p.1 (dR.1 h2).1 (by omega)).trans h2⟩
theorem Rt.merge(h:Rt W0 W rb l st y L M)(h2:Rx W w' rb l st' y' L')(hm:mu st'<=mu st):Rt W0 w' rb l st' y' L M:=⟨h.x.merge h2 hm,h.tks h2.upd⟩
theorem Rt.below(h:Rt W0 W rb l st y L M)(hB:Below W.heap.size W w'):Rt W0 w' rb l st y L M:=⟨h.x.below hB,h.tks (It.bL.of_below hB)⟩
theorem Rt.alloc(h:Rt W0 W rb l st y L M)(o:Obj):Rt W0 (W.alloc o) rb l st y L M:=h.below ((bY _ W).alloc (aL _) _)
theorem Rt.drew(h:Rt W0 W rb l st y L M):Rt W0 W.drew rb l st y L M:=h.below (bY _ W).drew
theorem Rt.sub(h:Rt W0 W rb l st y L M)(hL:∀p ∈ L',p ∈ L)(hM:∀p ∈ M',p ∈ M):Rt W0 W rb l st y L' M':=⟨h.x.sub hL,λp hp=>h.tk p (hM p hp)⟩
theorem Rt.new(h:Rt W0 W rb l st y L M)(z:Yd):Rt W0 (W.alloc (.cells #[.int .i64 z.t.kind,.int .i64 z.a,.string z.t.text,.int .i64 z.t.int,.int .u64 z.t.bits] 36)) rb l st y L ((W.heap.size,z)::M):=by
 have h2:=h.alloc (.cells #[.int .i64 z.t.kind,.int .i64 z.a,.string z.t.text,.int .i64 z.t.int,.int .u64 z.t.bits] 36)
 refine⟨h2.x,?_⟩
 intro p hp
 rcases List.mem_cons.1 hp with rfl|hp
 ·exact⟨h.x.upd.size,dI W _⟩
 ·exact h2.tk p hp
theorem Rt.tok(h:Rt W0 W rb l st y L M)(m:(tb,z) ∈ M):W.cell? ⟨tb,0,none⟩=some (.int .i64 z.t.kind)/\W.cell? ⟨tb,1,none⟩=some (.int .i64 z.a)/\W.cell? ⟨tb,2,none⟩=some (.string z.t.text)/\W.cell? ⟨tb,3,none⟩=some (.int .i64 z.t.int)/\W.cell? ⟨tb,4,none⟩=some (.int .u64 z.t.bits):=by
 have q:=aA (h.tk _ m).2
 exact⟨q 0,q 1,q 2,q 3,q 4⟩
theorem Rt.RI(h:Rt W0 W rb l st y L M)(m:(tb,z) ∈ M):W.heap[tb]? = some (.cells (dA z) 36 (0,0)):=(h.tk _ m).2
theorem Rt.stepT(h:Rt W0 W rb l st y L M)(w:ByteArray)(hw:w≠⟨#[]⟩)(hg:bR w st=true):Calls prog 12 #[ptr rb] W λx w'=>x=.returned (.tuple #[])/\∃y',Rt W0 w' rb l (bJ st) y' L M/\mu (bJ st)<mu st:=by
 refine(h.x.gP.stepT w hw hg).mono ?_
 rintro x w' ⟨hx,y',h2⟩
 refine⟨hx,y',h.merge h2 (mu_step' _ h.x.good),?_⟩
 cases st with
 | error e=>cases hg
 | ok s=>exact mu_step h.x.ok
theorem Rt.step(h:Rt W0 W rb l (.ok s) y L M)(hk:y.t.kind≠7):Calls prog 12 #[ptr rb] W λx w'=>x=.returned (.tuple #[])/\∃y',Rt W0 w' rb l (bJ (.ok s)) y' L M/\mu (bJ (.ok s))<mu (.ok s):=by
 refine(h.x.gP.step hk).mono ?_
 rintro x w' ⟨hx,y',h2⟩
 exact⟨hx,y',h.merge h2 (mu_step' _ h.x.good),mu_step h.x.ok⟩
theorem Rt.want(h:Rt W0 W rb l st y L M)(w:ByteArray)(hw:w≠⟨#[]⟩):Calls prog 14 #[ptr rb,.string w] W λx w'=>x=.returned (.int .i64 y.a)/\∃y',Rt W0 w' rb l (aN w st) y' L M/\mu (aN w st)<=mu st:=by
 refine(h.x.gP.want w hw).mono ?_
 rintro x w' ⟨hx,y',h2⟩
 exact⟨hx,y',h.merge h2 (AX w h.x.good),AX w h.x.good⟩
theorem Rt.name(h:Rt W0 W rb l st y L M):Calls prog 13 #[ptr rb] W λx w'=>x=.returned (.agg #[.int .i64 y.t.kind,.int .i64 y.a,.string y.t.text,.int .i64 y.t.int,.int .u64 y.t.bits])/\∃y',Rt W0 w' rb l (bP st) y' L M/\mu (bP st)<=mu st:=by
 refine h.x.gP.name.mono ?_
 rintro x w' ⟨hx,y',h2⟩
 exact⟨hx,y',h.merge h2 (GX h.x.good),GX h.x.good⟩
theorem SL(h:mG st):mu (Em st)<=mu st:=by
 unfold Em
 split
 ·exact mu_step' st h
 ·exact aL _
theorem Rt.label(h:Rt W0 W rb l st y L M):Calls prog 74 #[ptr rb] W λx w'=>x=.returned (.string (MC st y))/\∃y',Rt W0 w' rb l (Em st) y' L M:=by
 refine h.x.gP.label.mono ?_
 rintro x w' ⟨hx,y',h2⟩
 exact⟨hx,y',h.merge h2 (SL h.x.good)⟩
theorem Rt.part(h:Rt W0 W rb l st y L M)(c:nO g p n)(hn:mu st<=n):Calls prog g #[ptr rb] W λe w'=>∃b m ks st' y',e=.returned (ptr b)/\Rt W0 w' rb l st' y' ((b,Fo.one m ks)::L) M/\aO p st st' (some (Fo.one m ks))/\CT m ks/\mu st'<=mu st:=by
 refine(c W rb l st y h.x.gP hn).mono ?_
 rintro e w' ⟨b,m,ks,st',y',he,h1,ho,hc⟩
 exact⟨b,m,ks,st',y',he,⟨h.x.up h1 ho,h.tks h1.upd⟩,ho,hc,ho.mu⟩
theorem Rt.jD{a:Value}(h:Rt W0 W rb l st y L M)(c:pU g a p n)(hn:mu st<=n):Calls prog g #[ptr rb,a] W λe w'=>∃b m ks st' y',e=.returned (ptr b)/\Rt W0 w' rb l st' y' ((b,Fo.one m ks)::L) M/\aO p st st' (some (Fo.one m ks))/\CT m ks/\mu st'<=mu st:=by
 refine(c W rb l st y h.x.gP hn).mono ?_
 rintro e w' ⟨b,m,ks,st',y',he,h1,ho,hc⟩
 exact⟨b,m,ks,st',y',he,⟨h.x.up h1 ho,h.tks h1.upd⟩,ho,hc,ho.mu⟩
theorem Rt.jZ(h:Rt W0 W rb l st y L M)(c:nO g p n)(hn:mu st<=n):Calls prog g #[ptr rb] W λe w'=>∃b m ks st' y',e=.returned (ptr b)/\Rt W0 w' rb l st' y' L M/\It.bL (λk=>k=rb) W w'/\cZ w' (λk=>W.heap.size<=k) [b] (Fo.one m ks)/\aO p st st' (some (Fo.one m ks))/\CT m ks/\mu st'<=mu st:=by
 refine(c W rb l st y h.x.gP hn).mono ?_
 rintro e w' ⟨b,m,ks,st',y',he,h1,ho,hc⟩
 exact⟨b,m,ks,st',y',he,h.merge h1 ho.mu,h1.upd,h1.ts _ (List.mem_singleton.2 rfl),ho,hc,ho.mu⟩
theorem Rt.nd0(h:Rt W0 W rb l st y L M)(k a:Int)(t:ByteArray):Calls prog 9 #[.int .i64 k,.int .i64 a,.string t,.slice none 0 0] W λx w'=>∃b,x=.returned (ptr b)/\Rt W0 w' rb l st y ((b,Fo.one ⟨k,a,t,0,0⟩ .nil)::L) M:=by
 refine(oh k a t none 0 0 W).mono ?_
 rintro x w' ⟨hx,rfl⟩
 exact⟨_,hx,⟨h.x.om ((bY _ W).alloc (aL _) _) (aL _) (dI W _),(h.alloc _).tk⟩⟩
theorem Rt.Od(h:Rt W0 W rb l st y L M)(k a:Int)(t:ByteArray)(m1:(b1,f1) ∈ L):Calls prog 9 #[.int .i64 k,.int .i64 a,.string t,.slice (some ⟨W.heap.size,0,none⟩) 1 1] (W.alloc (.cells #[ptr b1] 40)) λx w'=>∃b,x=.returned (ptr b)/\Rt W0 w' rb l st y ((b,Fo.one ⟨k,a,t,0,0⟩ f1)::L) M:=by
 refine(oh k a t _ 1 1 _).mono ?_
 rintro x w' ⟨hx,rfl⟩
 exact⟨_,hx,⟨h.x.node (bs:=[b1]) (h.x.ts _ m1) (by have:=one_le;simp;omega) rfl ((bY _ _).alloc (aL _) _) (aL _) (dI _ _),((h.alloc _).alloc _).tk⟩⟩
theorem Rt.UQ(h:Rt W0 W rb l st y L M)(k a:Int)(t:ByteArray)(m1:(b1,f1) ∈ L)(m2:(b2,f2) ∈ L):Calls prog 9 #[.int .i64 k,.int .i64 a,.string t,.slice (some ⟨W.heap.size,0,none⟩) 2 2] (W.alloc (.cells #[ptr b1,ptr b2] 40)) λx w'=>∃b,x=.returned (ptr b)/\Rt W0 w' rb l st y ((b,Fo.one ⟨k,a,t,0,0⟩ (f1.app f2))::L) M:=by
 refine(oh k a t _ 2 2 _).mono ?_
 rintro x w' ⟨hx,rfl⟩
 exact⟨_,hx,⟨h.x.node (bs:=[b1,b2]) ((h.x.ts _ m1).app (h.x.ts _ m2)) (by have:=one_le;simp;omega) rfl ((bY _ _).alloc (aL _) _) (aL _) (dI _ _),((h.alloc _).alloc _).tk⟩⟩
theorem Rt.wrong(h:Rt W0 W rb l st y L M):Calls prog 16 #[ptr rb] W λx w'=>∃b,x=.returned (ptr b)/\Rt W0 w' rb l (jI st) y ((b,Fo.one ⟨0,0,⟨#[]⟩,0,0⟩ .nil)::L) M:=by
 refine h.x.gP.wrong.mono ?_
 rintro x w' ⟨b,hx,h2⟩
 have hm:mu (jI st)<=mu st:=by rw[lK];exact Nat.zero_le _
 have h3:=h.merge h2 hm
 refine⟨b,hx,⟨⟨h3.x.rd,h3.x.sz,h3.x.mb,h3.x.upd,h3.x.lt,?_⟩,h3.tk⟩⟩
 intro p hp
 rcases List.mem_cons.1 hp with rfl|hp
 ·exact(h2.ts _ (aH ..)).mono (λk e=>dQ h.x.upd.size e)
 ·exact h3.x.ts p hp
theorem Rt.res(h:Rt W w' rb l st' y' L M)(hb:(b,Fo.one nd ks) ∈ L)(ho:aO p st st' (some (Fo.one nd ks)))(hc:CT nd ks):qH W rb l p st (.returned (ptr b)) w':=h.x.res hb ho hc
theorem Rt.ok(h:Rt W0 W rb l (.ok s) y L M):look s=.ok y:=h.x.ok
theorem Rt.wN(h:Rt W0 W rb l st y L M):∀s,st=.ok s->look s=.ok y:=by
 rintro s rfl
 exact h.x.ok
theorem Rt.cells(h:Rt W0 W rb l st y L M):W.cell? ⟨rb,0,none⟩=some (.string l)/\W.cell? ⟨rb,1,none⟩=some (.int .i64 y.t.kind)/\W.cell? ⟨rb,2,none⟩=some (.int .i64 y.a)/\W.cell? ⟨rb,3,none⟩=some (.string y.t.text)/\W.cell? ⟨rb,4,none⟩=some (.int .i64 y.t.int)/\W.cell? ⟨rb,5,none⟩=some (.int .u64 y.t.bits):=h.x.cells
theorem Rt.lX(h:Rt W0 W rb l st y L M)(w:ByteArray)(hw:w≠⟨#[]⟩)(hg:bR w st=true):Calls prog 11 #[ptr rb,.string w] W λx w'=>x=.returned (.bool true)/\w'=W:=h.x.lX w hw hg
theorem Rt.nG(h:Rt W0 W rb l st y L M)(w:ByteArray)(hw:w≠⟨#[]⟩)(hg:bR w st=false):Calls prog 11 #[ptr rb,.string w] W λx w'=>x=.returned (.bool false)/\w'=W:=h.x.nG w hw hg
theorem D9(hs:look s=.ok y){zs:List ByteArray}(he:∀z ∈ zs,z≠⟨#[]⟩)(hg:pR zs (.ok s)=true):y.t.kind=2\/y.t.kind=3:=by
 rw[any_ok zs hs,List.any_eq_true] at hg
 obtain⟨z,hz,hq⟩:=hg
 have hq:=of_decide_eq_true hq
 unfold aG at hq
 split at hq
 ·assumption
 ·exact absurd hq.symm (he z hz)
theorem sI(hs:look s=.ok y){w:ByteArray}(hw:w≠⟨#[]⟩)(hg:bR w (.ok s)=true):y.t.kind=2\/y.t.kind=3:=by
 have hq:=(ak hs).1 hg
 unfold aG at hq
 split at hq
 ·assumption
 ·exact absurd hq.symm hw
theorem tZ(k:Nat):∀z ∈ dz k,z≠⟨#[]⟩:=by
 unfold dz
 split <;> decide
theorem Ei(k:Nat):(dz k).length<=10:=by
 unfold dz
 split <;> decide
theorem Rt.any(h:Rt W0 W rb l st y L M)(k:Nat):Calls prog 135 #[ptr rb,.slice (some ⟨W.heap.size,0,none⟩) (dz k).length (dz k).length] (W.alloc (.cells ((dz k).map Value.string).toArray 9)) λx w'=>x=.returned (.bool (pR (dz k) st))/\Rt W0 w' rb l st y L M:=by
 have h2:=h.alloc (.cells ((dz k).map Value.string).toArray 9)
 refine(h2.x.aA7 W.heap.size (dz k) (Ei k) (λj hj=>?_) (tZ k)).mono ?_
 ·have q:=aA (dI W (.cells ((dz k).map Value.string).toArray 9)) j
  rw[q]
  rw[getD_at hj]
  simp[hj]
 ·rintro x w' ⟨rfl,rfl⟩
  exact⟨rfl,h2⟩
theorem Rt.Wq(h:Rt W0 W rb l st y L M)(k:Nat)(hg:pR (dz k) st=true):Calls prog 135 #[ptr rb,.slice (some ⟨W.heap.size,0,none⟩) (dz k).length (dz k).length] (W.alloc (.cells ((dz k).map Value.string).toArray 9)) λx w'=>x=.returned (.bool true)/\Rt W0 w' rb l st y L M:=by
 have:=h.any k
 rwa [hg] at this
theorem Rt.Ws(h:Rt W0 W rb l st y L M)(k:Nat)(hg:pR (dz k) st=false):Calls prog 135 #[ptr rb,.slice (some ⟨W.heap.size,0,none⟩) (dz k).length (dz k).length] (W.alloc (.cells ((dz k).map Value.string).toArray 9)) λx w'=>x=.returned (.bool false)/\Rt W0 w' rb l st y L M:=by
 have:=h.any k
 rwa [hg] at this
theorem Rt.append{bk:List Nat}{u u':Value}{w2 w4:World}{x:Nat}(h:Rt W0 w2 rb l st y L M)(hU:It.bL (λk=>k=rb) W w2)(hW:W0.heap.size<=W.heap.size)(hb:Bt W0.heap.size W b nd u bk ks)(hx:cZ w2 (λk=>W.heap.size<=k) [x] fx)
  (h2:w4.ownsRow W0.heap.size 40 1 u' (bk.length+1) (bk.map ptr++[ptr x])) (h3:(w2.alloc (.cells #[ptr x] 40)).grownBy w4 u.ownBlock) (h5:u'.ownBlock=u.ownBlock\/u'.ownBlock=some (w2.alloc (.cells #[ptr x] 40)).heap.size) :
  Rt W0 (w4.setCell ⟨b,6,none⟩ u') rb l st y [(b,Fo.one nd (ks.app fx))] []:=⟨h.x.append hU hW hb hx h2 h3 h5,by simp⟩
theorem Rt.top(h:Rt W0 W rb l st y ((b,fx)::L) M):Rt W0 W rb l st y [(b,fx)] []:=h.sub (λp hp=>by rw[List.mem_singleton.1 hp];exact aH ..) (λp hp=>absurd hp (by simp))
theorem dD{k a i:Int}{t:ByteArray}{v:Int}(h:k≠25)(h2:k≠24):CT ⟨k,a,t,i,v⟩ ks:=PX h h2
theorem Mr{a:Int}{m m1:Nd}{k k1:Fo}:CT ⟨24,a,⟨#[]⟩,0,0⟩ ((Fo.one m k).app (Fo.one m1 k1)):=⟨λe=>absurd e (show ¬ (24:Int)=25 by decide),λ_=>⟨rfl,rfl,rfl,rfl⟩⟩
theorem Rt.mq(h:Rt W0 W rb l st y L M)(z:Yd):∃tb,W.heap.size=tb/\Rt W0 (W.alloc (.cells #[.int .i64 z.t.kind,.int .i64 z.a,.string z.t.text,.int .i64 z.t.int,.int .u64 z.t.bits] 36)) rb l st y L ((tb,z)::M):=⟨_,rfl,h.new z⟩
theorem Rt.row(h:Rt W0 W rb l st y L M)(m:(b,Fo.one nd ks) ∈ L):∃u,W.heap[b]? = some (.cells (oI nd u) 46 (0,0)):=by
 obtain⟨u,bk,hb⟩:=Bt.of (h.x.ts _ m)
 exact⟨u,hb.top⟩
theorem Rt.set{nd':Nd}(h:Rt W0 W rb l st y L M)(m:(b,Fo.one nd ks) ∈ L)(j:Nat)(x:Value)(hn:∀u,(oI nd u).toList.set j x=(oI nd' u).toList):Rt W0 (W.setCell ⟨b,j,none⟩ x) rb l st y [(b,Fo.one nd' ks)] []:=⟨h.x.set m j x hn,by simp⟩
theorem aO.other{e:jv}{o o':Option Fo}(h:aO p st (.error e) o):aO p st (.error e) o':=by
 cases st with
 | error f=>exact h
 | ok s=>
  obtain⟨n,r,h1,h2⟩:=h
  refine⟨n,r,h1,?_⟩
  match r,h2 with
  | .error e',h2=>exact h2
  | .ok (a,s'),⟨h2,h3⟩=>exact⟨h2,λ⟨x,q⟩=>by cases q⟩
end
theorem rD{W:World}{rb:Nat}{l:ByteArray}{f:jv}{y:Yd}{p:Nt}{i:Int}(h:Rx W W rb l (.error f) y []):Calls prog 98 #[ptr rb,.int .i64 i] W (qH W rb l p (.error f)):=by
 have hx:=Rt.start h
 have H:=hid h
 clear h
 go_enter func98,ntmps98
 go_wp2_with (go_at_call 10;(with_reducible refine(ji hx.x).mono ?_);rintro x w2 ⟨rfl,hw⟩;(have hw':=hw.symm);subst hw';clear hw)
 go_ret
 exact⟨_,⟨0,0,⟨#[]⟩,0,0⟩,.nil,.error f,y,rfl,H.out.om ((bY _ W).alloc (aL _) _) (aL _) (dI W _),aO.bad,dD (by decide) (by decide)⟩
theorem CZ{W:World}{rb:Nat}{l:ByteArray}{f:jv}{y:Yd}{p:Nt}(h:Rx W W rb l (.error f) y []):Calls prog 156 #[ptr rb] W (qH W rb l p (.error f)):=by
 have hx:=Rt.start h
 have H:=hid h
 clear h
 go_enter func156,ntmps156
 go_wp2_with (go_at_call 10;(with_reducible refine(ji hx.x).mono ?_);rintro x w2 ⟨rfl,hw⟩;(have hw':=hw.symm);subst hw';clear hw)
 go_ret
 exact⟨_,⟨0,0,⟨#[]⟩,0,0⟩,.nil,.error f,y,rfl,H.out.om ((bY _ W).alloc (aL _) _) (aL _) (dI W _),aO.bad,dD (by decide) (by decide)⟩
theorem Mf(n:Nat)(ca:pU 98 (.int .i64 0) .ex n):nO 71 .ex n:=by
 intro W rb l st y hx0 hn
 have hx:=Rt.start hx0
 clear hx0
 go_enter func71,ntmps71
 go_wp2_with (go_at_call 98;(with_reducible refine(Rt.jD hx ca hn).mono ?_);rintro x w2 ⟨b1,m1,k1,st1,y1,rfl,hx2,ho1,hc1,hm1⟩;(replace hx:=hx2);clear hx2)
 go_ret
 exact hx.res (aH ..) ho1 hc1
theorem OQ(n:Nat)(cp:nO 156 .pr n)(ce:∀m,m<n->nO 71 .ex m):nO 137 .po n:=by
 intro W rb l st y hx0 hn
 have hx:=Rt.start hx0
 have HG:=hid hx0.good
 have HN:=hid hn
 clear hx0
 go_enter func137,ntmps137
 go_wp2_with (go_at_call 156;(with_reducible refine(Rt.part hx cp hn).mono ?_);rintro x w2 ⟨b1,m1,k1,st1,y1,rfl,hx2,ho1,hc1,hm1⟩;(replace hx:=hx2);clear hx2)
 have HI:=hid (Sg ho1 HG.out)
 have HX:=hid hx
 have HC:=hid hc1
 have xY:=hid hm1
 clear hx ho1 hc1 hm1 hn
 go_loopw [3] (λu wr=>∃b m ks s' y',u=ptr b/\Rt W wr rb l s' y' [(b,Fo.one m ks)] []/\Inv .wI .po st (Fo.one m ks) s'/\CT m ks/\mu s'<=n) (λ_ wr=>ru wr rb l)
 case atStart=>exact⟨b1,m1,k1,_,_,rfl,HX.out,HI.out,HC.out,dQ xY.out HN.out⟩
 case round=>
  obtain⟨b,m,ks,s',y',rfl,hx,hI,hct,hm⟩:=hrel
  clear HI HX HC xY HN HG
  have HM:=hid hx.x.rd.ru
  have HI:=hid hI
  have HC:=hid hct
  have HN:=hid hm
  clear hI hct hm
  cases g:bR oz s'
  ·have HO:=hid (Er HI.out hx.wN g)
   go_wp2_with (go_at_call 11;(with_reducible refine(Rt.nG hx _ (by decide) g).mono ?_);rintro x w2 ⟨rfl,hw⟩;(have hw':=hw.symm);subst hw';clear hw)
   go_ret
   exact hx.res (by simp) HO.out HC.out
  ·cases s' with
   | error e=>cases g
   | ok s1=>
    have hs:=hid hx.ok
    obtain⟨_,_,c2,_,_,_⟩:=hx.cells
    go_wp2_with (first|(go_at_call 11;(with_reducible refine(Rt.lX hx _ (by decide) g).mono ?_);rintro x w2 ⟨rfl,hw⟩;(have hw':=hw.symm);subst hw';clear hw)|(go_at_call 12;(with_reducible refine(Rt.stepT hx oz (by decide) g).mono ?_);rintro x w2 ⟨rfl,y2,hx2,q2⟩;(replace hx:=hx2);clear hx2)|(go_at_call 71;(with_reducible refine(Rt.part hx (ce (mu (bJ (.ok s1))) (eU q2 HN.out)) (aL _)).mono ?_);rintro x w2 ⟨b3,m3,k3,gT,y3,rfl,hx2,ho3,hc3,xw⟩;(replace hx:=hx2);clear hx2)|(go_at_call 14;(with_reducible refine(Rt.want hx _ (by decide)).mono ?_);rintro x w2 ⟨rfl,y4,hx2,q4⟩;(replace hx:=hx2);clear hx2)|(go_at_call 9;(with_reducible refine(Rt.UQ (b1:=b) (f1:=Fo.one m ks) (b2:=b3) (f2:=Fo.one m3 k3) hx _ _ _ (by simp) (by simp)).mono ?_);rintro x w2 ⟨b0,rfl,hx2⟩;(replace hx:=hx2);clear hx2))
    go_roundw
    case rel=>exact⟨b0,_,_,_,_,rfl,hx.top,JD HI.out hs.out g ho3,Mr,by have:=HN.out;omega⟩
    case measure=>
     rw[hx.x.rd.ru,HM.out]
     omega
theorem Wo(n:Nat)(c1:pU 98 (.int .i64 1) .cj n):pU 98 (.int .i64 0) .ex n:=by
 intro W rb l st y hx0 hn
 cases st with
 | error f=>exact rD hx0
 | ok s=>
  have hx:=Rt.start hx0
  have HG:=hid hx0.good
  have HN:=hid hn
  clear hx0
  go_enter func98,ntmps98
  go_wp2_with (first|(go_at_call 10;(with_reducible refine(dH hx.x).mono ?_);rintro x w2 ⟨rfl,hw⟩;(have hw':=hw.symm);subst hw';clear hw)|(go_at_call 98;(with_reducible refine(Rt.jD hx c1 hn).mono ?_);rintro x w2 ⟨b1,m1,k1,st1,y1,rfl,hx2,ho1,hc1,hm1⟩;(replace hx:=hx2);clear hx2))
  have HI:=hid (Si ho1 HG.out)
  have HX:=hid hx
  have HC:=hid hc1
  have xY:=hid hm1
  clear hx ho1 hc1 hm1 hn
  go_loopw [7] (λu wr=>∃b m ks s' y',u=ptr b/\Rt W wr rb l s' y' [(b,Fo.one m ks)] []/\Inv .xB .ex (.ok s) (Fo.one m ks) s'/\CT m ks/\mu s'<=n) (λ_ wr=>ru wr rb l)
  case atStart=>exact⟨b1,m1,k1,_,_,rfl,HX.out,HI.out,HC.out,dQ xY.out HN.out⟩
  case round=>
   obtain⟨b,m,ks,s',y',rfl,hx,hI,hct,hm⟩:=hrel
   clear HI HX HC xY HN HG
   have HM:=hid hx.x.rd.ru
   have HI:=hid hI
   have HC:=hid hct
   have HN:=hid hm
   clear hI hct hm
   cases g:bR Cw s'
   ·have HO:=hid (Es HI.out hx.wN g)
    go_wp2_with (go_at_call 11;(with_reducible refine(Rt.nG hx _ (by decide) g).mono ?_);rintro x w2 ⟨rfl,hw⟩;(have hw':=hw.symm);subst hw';clear hw)
    go_ret
    exact hx.res (by simp) HO.out HC.out
   ·cases s' with
    | error e=>cases g
    | ok s1=>
     have hs:=hid hx.ok
     obtain⟨_,_,c2,_,_,_⟩:=hx.cells
     go_wp2_with (first|(go_at_call 11;(with_reducible refine(Rt.lX hx _ (by decide) g).mono ?_);rintro x w2 ⟨rfl,hw⟩;(have hw':=hw.symm);subst hw';clear hw)|(go_at_call 12;(with_reducible refine(Rt.stepT hx Cw (by decide) g).mono ?_);rintro x w2 ⟨rfl,y2,hx2,q2⟩;(replace hx:=hx2);clear hx2)|(go_at_call 98;(with_reducible refine(Rt.jD hx (c1) (by have:=HN.out;omega)).mono ?_);rintro x w2 ⟨b3,m3,k3,gT,y3,rfl,hx2,ho3,hc3,xw⟩;(replace hx:=hx2);clear hx2)|(go_at_call 9;(with_reducible refine(Rt.UQ (b1:=b) (f1:=Fo.one m ks) (b2:=b3) (f2:=Fo.one m3 k3) hx _ _ _ (by simp) (by simp)).mono ?_);rintro x w2 ⟨b0,rfl,hx2⟩;(replace hx:=hx2);clear hx2))
     go_roundw
     case rel=>exact⟨b0,_,_,_,_,rfl,hx.top,JE HI.out hs.out g ho3,dD (by decide) (by decide),by have:=HN.out;omega⟩
     case measure=>
      rw[hx.x.rd.ru,HM.out]
      omega
theorem Tn(n:Nat)(c1:pU 98 (.int .i64 2) .ng n):pU 98 (.int .i64 1) .cj n:=by
 intro W rb l st y hx0 hn
 cases st with
 | error f=>exact rD hx0
 | ok s=>
  have hx:=Rt.start hx0
  have HG:=hid hx0.good
  have HN:=hid hn
  clear hx0
  go_enter func98,ntmps98
  go_wp2_with (first|(go_at_call 10;(with_reducible refine(dH hx.x).mono ?_);rintro x w2 ⟨rfl,hw⟩;(have hw':=hw.symm);subst hw';clear hw)|(go_at_call 98;(with_reducible refine(Rt.jD hx c1 hn).mono ?_);rintro x w2 ⟨b1,m1,k1,st1,y1,rfl,hx2,ho1,hc1,hm1⟩;(replace hx:=hx2);clear hx2))
  have HI:=hid (Sj ho1 HG.out)
  have HX:=hid hx
  have HC:=hid hc1
  have xY:=hid hm1
  clear hx ho1 hc1 hm1 hn
  go_loopw [7] (λu wr=>∃b m ks s' y',u=ptr b/\Rt W wr rb l s' y' [(b,Fo.one m ks)] []/\Inv .xH .cj (.ok s) (Fo.one m ks) s'/\CT m ks/\mu s'<=n) (λ_ wr=>ru wr rb l)
  case atStart=>exact⟨b1,m1,k1,_,_,rfl,HX.out,HI.out,HC.out,dQ xY.out HN.out⟩
  case round=>
   obtain⟨b,m,ks,s',y',rfl,hx,hI,hct,hm⟩:=hrel
   clear HI HX HC xY HN HG
   have HM:=hid hx.x.rd.ru
   have HI:=hid hI
   have HC:=hid hct
   have HN:=hid hm
   clear hI hct hm
   cases g:bR uP s'
   ·have HO:=hid (Et HI.out hx.wN g)
    go_wp2_with (go_at_call 11;(with_reducible refine(Rt.nG hx _ (by decide) g).mono ?_);rintro x w2 ⟨rfl,hw⟩;(have hw':=hw.symm);subst hw';clear hw)
    go_ret
    exact hx.res (by simp) HO.out HC.out
   ·cases s' with
    | error e=>cases g
    | ok s1=>
     have hs:=hid hx.ok
     obtain⟨_,_,c2,_,_,_⟩:=hx.cells
     go_wp2_with (first|(go_at_call 11;(with_reducible refine(Rt.lX hx _ (by decide) g).mono ?_);rintro x w2 ⟨rfl,hw⟩;(have hw':=hw.symm);subst hw';clear hw)|(go_at_call 12;(with_reducible refine(Rt.stepT hx uP (by decide) g).mono ?_);rintro x w2 ⟨rfl,y2,hx2,q2⟩;(replace hx:=hx2);clear hx2)|(go_at_call 98;(with_reducible refine(Rt.jD hx (c1) (by have:=HN.out;omega)).mono ?_);rintro x w2 ⟨b3,m3,k3,gT,y3,rfl,hx2,ho3,hc3,xw⟩;(replace hx:=hx2);clear hx2)|(go_at_call 9;(with_reducible refine(Rt.UQ (b1:=b) (f1:=Fo.one m ks) (b2:=b3) (f2:=Fo.one m3 k3) hx _ _ _ (by simp) (by simp)).mono ?_);rintro x w2 ⟨b0,rfl,hx2⟩;(replace hx:=hx2);clear hx2))
     go_roundw
     case rel=>exact⟨b0,_,_,_,_,rfl,hx.top,JF HI.out hs.out g ho3,dD (by decide) (by decide),by have:=HN.out;omega⟩
     case measure=>
      rw[hx.x.rd.ru,HM.out]
      omega
theorem Tg(n:Nat)(c0:∀m,m<n->pU 98 (.int .i64 2) .ng m)(c1:pU 98 (.int .i64 3) .cm n):pU 98 (.int .i64 2) .ng n:=by
 intro W rb l st y hx0 hn
 cases st with
 | error f=>exact rD hx0
 | ok s=>
  have hx:=Rt.start hx0
  have hs:=hid hx.ok
  obtain⟨_,_,c2,_,_,_⟩:=hx.cells
  clear hx0
  cases g:bR zG (.ok s)
  ·go_enter func98,ntmps98
   go_wp2_with (first|((with_reducible (apply Calls.mono;first|exact dH hx.x|exact Rt.nG hx _ (by decide) g));rintro x w2 ⟨rfl,hw⟩;(have hw':=hw.symm);subst hw';clear hw)|(go_at_call 98;(with_reducible refine(Rt.jD hx c1 hn).mono ?_);rintro x w2 ⟨b1,m1,k1,st1,y1,rfl,hx2,ho1,hc1,hm1⟩;(replace hx:=hx2);clear hx2))
   go_ret
   exact hx.res (aH ..) (SB hs.out g ho1) hc1
  ·go_enter func98,ntmps98
   go_wp2_with (first|((with_reducible (apply Calls.mono;first|exact dH hx.x|exact Rt.lX hx _ (by decide) g));rintro x w2 ⟨rfl,hw⟩;(have hw':=hw.symm);subst hw';clear hw)|(go_at_call 12;(with_reducible refine(Rt.stepT hx zG (by decide) g).mono ?_);rintro x w2 ⟨rfl,y2,hx2,q2⟩;(replace hx:=hx2);clear hx2)|(go_at_call 98;(with_reducible refine(Rt.jD hx (c0 (mu (bJ (.ok s))) (eU q2 hn)) (aL _)).mono ?_);rintro x w2 ⟨b3,m3,k3,gT,y3,rfl,hx2,ho3,hc3,xw⟩;(replace hx:=hx2);clear hx2)|(go_at_call 9;(with_reducible refine(Rt.Od (b1:=b3) (f1:=Fo.one m3 k3) hx _ _ _ (by simp)).mono ?_);rintro x w2 ⟨b0,rfl,hx2⟩;(replace hx:=hx2);clear hx2))
   go_ret
   exact hx.res (aH ..) (VQ hs.out g ho3) (dD (by decide) (by decide))
theorem vR{y:Yd}(hk:y.t.kind=2\/y.t.kind=3)(hc:BJ y.t)(k:Int):(⟨k,y.a,y.t.text,0,0⟩:Nd)=jr k y:=Rx.rW ⟨by omega,by omega⟩ hc
theorem pU.top{n:Nat}{g:Nat}{a:Value}(h:pU g a .un n):pU g a (.bn 7) n:=by
 intro W rb l st y hx hn
 refine(h W rb l st y hx hn).mono ?_
 rintro e w' ⟨b,m,ks,st',y',he,h1,ho,hc⟩
 exact⟨b,m,ks,st',y',he,h1,TW ho hx.good,hc⟩
theorem uE(k:Nat)(h4:4<=k)(h9:k<=9)(n:Nat)(c1:pU 98 (.int .i64 ((k:Int)+1)) (.bn (k-3+1)) n):pU 98 (.int .i64 (k:Nat)) (.bn (k-3)) n:=by
 intro W rb l st y hx0 hn
 cases st with
 | error f=>exact rD hx0
 | ok s=>
  have hx:=Rt.start hx0
  have HG:=hid hx0.good
  have HN:=hid hn
  have HK:=hid (show 3<=k/\k<=9 by omega)
  have HK4:=hid h4
  have a1:¬ (k:Int)<=1:=by omega
  have a2:¬ (k:Int)=2:=by omega
  have a3:¬ (k:Int)=3:=by omega
  have a9:(k:Int)<=9:=by omega
  have v1:IntKind.i64.wrap ((k:Int)+1)=(k:Int)+1:=by rw[IntKind.wrap_i64];omega
  have v2:wrap64 ((k:Int)+1)=(k:Int)+1:=by unfold wrap64;omega
  clear hx0 h4 h9
  go_enter func98,ntmps98
  go_wp2_with (first|(go_at_call 10;(with_reducible refine(dH hx.x).mono ?_);rintro x w2 ⟨rfl,hw⟩;(have hw':=hw.symm);subst hw';clear hw)|(go_at_call 98;(with_reducible refine(Rt.jD hx c1 hn).mono ?_);rintro x w2 ⟨b1,m1,k1,st1,y1,rfl,hx2,ho1,hc1,hm1⟩;(replace hx:=hx2);clear hx2))
  have HI:=hid (Sk (j:=k-3) (by have:=HK.out;omega) ho1 HG.out)
  have HX:=hid hx
  have HC:=hid hc1
  have xY:=hid hm1
  clear hx ho1 hc1 hm1 hn
  go_loopw [10] (λu wr=>∃b m ks s' y',u=ptr b/\Rt W wr rb l s' y' [(b,Fo.one m ks)] []/\Inv (.xM (k-3)) (.bn (k-3)) (.ok s) (Fo.one m ks) s'/\CT m ks/\mu s'<=n) (λ_ wr=>ru wr rb l)
  case atStart=>exact⟨b1,m1,k1,_,_,rfl,HX.out,HI.out,HC.out,dQ xY.out HN.out⟩
  case round=>
   obtain⟨b,m,ks,s',y1,rfl,hx,hI,hct,hm⟩:=hrel
   clear HI HX HC xY HN HG
   have HM:=hid hx.x.rd.ru
   have HI:=hid hI
   have HC:=hid hct
   have HN:=hid hm
   clear hI hct hm
   cases g:pR (dz k) s'
   ·have HO:=hid (Eu HI.out hx.wN (λs e=>by subst e;intro q;rw[(zX hx.ok HK4.out HK.out.2).2 q] at g;cases g))
    go_wp2_with (first|(go_at_call 136;(with_reducible refine(Aa k HK.out.1 HK.out.2 _).mono ?_);rintro x w2 ⟨rfl,rfl⟩)|(go_at_call 135;(with_reducible refine(Rt.Ws hx k g).mono ?_);rintro x w2 ⟨rfl,hx2⟩;(replace hx:=hx2);clear hx2))
    go_ret
    exact hx.res (by simp) HO.out HC.out
   ·cases s' with
    | error e=>rw[Gi] at g;cases g
    | ok s1=>
     have hs:=hid hx.ok
     have wm:=D9 hx.ok (tZ k) g
     have HE:=hid (vR wm hx.x.clean 21)
     have HT:=hid ((zX hx.ok HK4.out HK.out.2).1 g)
     have MR:y1.t.kind≠7:=by omega
     have F7:=hid MR
     clear wm MR
     go_upto_region 22 with(first|(go_at_call 136;(with_reducible refine(Aa k HK.out.1 HK.out.2 _).mono ?_);rintro x w2 ⟨rfl,rfl⟩)|(go_at_call 135;(with_reducible refine(Rt.Wq hx k g).mono ?_);rintro x w2 ⟨rfl,hx2⟩;(replace hx:=hx2);clear hx2))
     obtain⟨_,c1',c2,c3,c4,c5⟩:=hx.cells
     go_upto_region 23 with fail
     obtain⟨tb,htb,jg⟩:=hx.mq y1
     rw[htb]
     (replace hx:=jg);clear jg htb c1' c2 c3 c4 c5
     generalize bO _ _=w9 at *
     go_upto_region 24 with(go_at_call 12;(with_reducible refine(Rt.step hx F7.out).mono ?_);rintro x w2 ⟨rfl,y2,hx2,q2⟩;(replace hx:=hx2);clear hx2)
     replace hx:=hx.drew
     have hS:=hx.tok (tb:=_) (z:=y1) (aH ..)
     refine wp_region_held_drew (S:=λw'=>w'.cell? ⟨tb,0,none⟩=some (.int .i64 y1.t.kind)/\w'.cell? ⟨tb,1,none⟩=some (.int .i64 y1.a)/\w'.cell? ⟨tb,2,none⟩=some (.string y1.t.text)/\w'.cell? ⟨tb,3,none⟩=some (.int .i64 y1.t.int)/\w'.cell? ⟨tb,4,none⟩=some (.int .u64 y1.t.bits)) (by kernel_rfl) hS ?_
     clear hS
     intro hS
     iterate 8 ((refine It.nH 0 ?_ rfl (by kernel_rfl) (λ_ _ _ h=>h) (Or.inl ⟨by rfl,?_⟩) hS ?_);rotate_left;(focus (intro w' hSw;(obtain⟨s0,s1,s2,s3,s4⟩:=hSw);go_simp;(try with_reducible rfl)));(try simp only[Act.put,aW,aV,aU,aT,aS,aR]))
     refine wpAnyH_ready (rs:=[8]) (by kernel_rfl) (by simp) ?_
     refine aY rfl (λK hK=>?_) ay
     go_simp
     refine(Rt.jD hx c1 (by have:=HN.out;omega)).mono ?_
     rintro x w2 ⟨b3,m3,k3,gT,y3,rfl,hx2,ho3,hc3,xw⟩
     replace hx:=hx2
     clear hx2
     refine hK.out _ _ (hx.tok (tb:=_) (z:=y1) (aH ..)) (λhS2=>?_)
     clear hK K hS
     (have hS:=hS2);clear hS2
     (try simp only[Act.put,aW,aV,aU,aT,aS,aR])
     refine wpAnyH_ready (rs:=[9]) (by kernel_rfl) (by simp) ?_
     refine aY rfl (λK hK=>?_) ay
     go_simp
     refine hK.out _ _ ((hx.alloc (.cells #[ptr b,ptr b3] 40)).tok (tb:=_) (z:=y1) (aH ..)) (λhS2=>?_)
     clear hK K hS
     (have hS:=hS2);clear hS2
     (try simp only[Act.put,aW,aV,aU,aT,aS,aR])
     refine wpAnyH_ready (rs:=[10]) (by kernel_rfl) (by simp) ?_
     refine aY rfl (λK hK=>?_) ay
     go_simp
     refine(Rt.UQ (b1:=b) (f1:=Fo.one m ks) (b2:=b3) (f2:=Fo.one m3 k3) hx _ _ _ (by simp) (by simp)).mono ?_
     rintro x w2 ⟨b0,rfl,hx2⟩
     replace hx:=hx2
     clear hx2
     refine hK.out _ _ (hx.tok (tb:=_) (z:=y1) (aH ..)) (λhS2=>?_)
     clear hK K hS
     (have hS:=hS2);clear hS2
     (try simp only[Act.put,aW,aV,aU,aT,aS,aR])
     refine wpAnyH_ready (rs:=[11]) (by kernel_rfl) (by simp) ?_
     refine aY rfl (λK hK=>?_) ay
     go_simp
     refine hK.out _ _ (hx.tok (tb:=_) (z:=y1) (aH ..)) (λhS2=>?_)
     clear hK K hS
     (have hS:=hS2);clear hS2
     (try simp only[Act.put,aW,aV,aU,aT,aS,aR])
     refine wpAnyH_done (by kernel_rfl) ?_ _
     go_wp2_with fail
     go_roundw
     case rel=>exact⟨b0,_,_,_,_,rfl,hx.top,by rw[HE.out];exact JG HI.out hs.out HT.out ho3,dD (by decide) (by decide),by have:=HN.out;omega⟩
     case measure=>
      rw[hx.x.rd.ru,HM.out]
      omega
theorem Ti(n:Nat)(c1:pU 98 (.int .i64 4) (.bn 1) n):pU 98 (.int .i64 3) .cm n:=by
 intro W rb l st y hx0 hn
 cases st with
 | error f=>exact rD hx0
 | ok s=>
  have hx:=Rt.start hx0
  have HS:=hid hx0.ok
  have lc:∀W,Calls prog 136 #[.int .i64 3] W λx w'=>x=.returned (.slice (some ⟨W.heap.size,0,none⟩) (dz 3).length (dz 3).length)/\w'=W.alloc (.cells ((dz 3).map Value.string).toArray 9):=λW=>Aa 3 (by decide) (by decide) W
  clear hx0
  go_enter func98,ntmps98
  go_wp2_with (first|(go_at_call 10;(with_reducible refine(dH hx.x).mono ?_);rintro x w2 ⟨rfl,hw⟩;(have hw':=hw.symm);subst hw';clear hw)|(go_at_call 98;(with_reducible refine(Rt.jD hx c1 hn).mono ?_);rintro x w2 ⟨b1,m1,k1,st1,y1,rfl,hx2,ho1,hc1,hm1⟩;(replace hx:=hx2);clear hx2))
  have HX:=hid hx
  have HC:=hid hc1
  have HO:=hid ho1
  have HN:=hid (dQ hm1 hn)
  clear hx ho1 hc1 hm1 hn
  go_loopw [10] (λu wr=>u=ptr b1/\Rt W wr rb l st1 y1 [(b1,Fo.one m1 k1)] []) (λ_ _=>0)
  case atStart=>exact⟨rfl,HX.out⟩
  case round=>
   obtain⟨rfl,hx⟩:=hrel
   clear HX
   cases g:pR (dz 3) st1
   ·go_wp2_with (first|(go_at_call 136;(with_reducible refine(lc _).mono ?_);rintro x w2 ⟨rfl,rfl⟩)|(go_at_call 135;(with_reducible refine(Rt.Ws hx 3 g).mono ?_);rintro x w2 ⟨rfl,hx2⟩;(replace hx:=hx2);clear hx2))
    go_ret
    refine hx.res (by simp) (TQ HO.out HS.out ?_) HC.out
    intro x z e hz q
    subst e
    have h1:=hx.ok
    rw[h1] at hz
    cases hz
    rw[Da h1,q] at g
    cases g
   ·cases st1 with
    | error e=>rw[Gi] at g;cases g
    | ok s1=>
     have hs:=hid hx.ok
     have wm:=D9 hx.ok (tZ 3) g
     have HE:=hid (vR wm hx.x.clean 21)
     have HT:=hid ((Da hx.ok).symm.trans g)
     have MR:y1.t.kind≠7:=by omega
     have F7:=hid MR
     clear wm MR
     go_upto_region 22 with(first|(go_at_call 136;(with_reducible refine(lc _).mono ?_);rintro x w2 ⟨rfl,rfl⟩)|(go_at_call 135;(with_reducible refine(Rt.Wq hx 3 g).mono ?_);rintro x w2 ⟨rfl,hx2⟩;(replace hx:=hx2);clear hx2))
     obtain⟨_,c1',c2,c3,c4,c5⟩:=hx.cells
     go_upto_region 23 with fail
     obtain⟨tb,htb,jg⟩:=hx.mq y1
     rw[htb]
     (replace hx:=jg);clear jg htb c1' c2 c3 c4 c5
     generalize bO _ _=w9 at *
     go_upto_region 24 with(go_at_call 12;(with_reducible refine(Rt.step hx F7.out).mono ?_);rintro x w2 ⟨rfl,y2,hx2,q2⟩;(replace hx:=hx2);clear hx2)
     replace hx:=hx.drew
     have hS:=hx.tok (tb:=_) (z:=y1) (aH ..)
     refine wp_region_held_drew (S:=λw'=>w'.cell? ⟨tb,0,none⟩=some (.int .i64 y1.t.kind)/\w'.cell? ⟨tb,1,none⟩=some (.int .i64 y1.a)/\w'.cell? ⟨tb,2,none⟩=some (.string y1.t.text)/\w'.cell? ⟨tb,3,none⟩=some (.int .i64 y1.t.int)/\w'.cell? ⟨tb,4,none⟩=some (.int .u64 y1.t.bits)) (by kernel_rfl) hS ?_
     clear hS
     intro hS
     iterate 8 ((refine It.nH 0 ?_ rfl (by kernel_rfl) (λ_ _ _ h=>h) (Or.inl ⟨by rfl,?_⟩) hS ?_);rotate_left;(focus (intro w' hSw;(obtain⟨s0,s1,s2,s3,s4⟩:=hSw);go_simp;(try with_reducible rfl)));(try simp only[Act.put,aW,aV,aU,aT,aS,aR]))
     refine wpAnyH_ready (rs:=[8]) (by kernel_rfl) (by simp) ?_
     refine aY rfl (λK hK=>?_) ay
     go_simp
     refine(Rt.jD hx c1 (by have:=HN.out;omega)).mono ?_
     rintro x w2 ⟨b3,m3,k3,gT,y3,rfl,hx2,ho3,hc3,xw⟩
     replace hx:=hx2
     clear hx2
     refine hK.out _ _ (hx.tok (tb:=_) (z:=y1) (aH ..)) (λhS2=>?_)
     clear hK K hS
     (have hS:=hS2);clear hS2
     (try simp only[Act.put,aW,aV,aU,aT,aS,aR])
     refine wpAnyH_ready (rs:=[9]) (by kernel_rfl) (by simp) ?_
     refine aY rfl (λK hK=>?_) ay
     go_simp
     refine hK.out _ _ ((hx.alloc (.cells #[ptr b1,ptr b3] 40)).tok (tb:=_) (z:=y1) (aH ..)) (λhS2=>?_)
     clear hK K hS
     (have hS:=hS2);clear hS2
     (try simp only[Act.put,aW,aV,aU,aT,aS,aR])
     refine wpAnyH_ready (rs:=[10]) (by kernel_rfl) (by simp) ?_
     refine aY rfl (λK hK=>?_) ay
     go_simp
     refine(Rt.UQ (b1:=b1) (f1:=Fo.one m1 k1) (b2:=b3) (f2:=Fo.one m3 k3) hx _ _ _ (by simp) (by simp)).mono ?_
     rintro x w2 ⟨b0,rfl,hx2⟩
     replace hx:=hx2
     clear hx2
     refine hK.out _ _ (hx.tok (tb:=_) (z:=y1) (aH ..)) (λhS2=>?_)
     clear hK K hS
     (have hS:=hS2);clear hS2
     (try simp only[Act.put,aW,aV,aU,aT,aS,aR])
     refine wpAnyH_ready (rs:=[11]) (by kernel_rfl) (by simp) ?_
     refine aY rfl (λK hK=>?_) ay
     go_simp
     refine hK.out _ _ (hx.tok (tb:=_) (z:=y1) (aH ..)) (λhS2=>?_)
     clear hK K hS
     (have hS:=hS2);clear hS2
     (try simp only[Act.put,aW,aV,aU,aT,aS,aR])
     refine wpAnyH_done (by kernel_rfl) ?_ _
     go_wp2_with fail
     go_ret
     have hq:=TP HO.out HS.out hs.out HT.out ho3
     have he:(⟨21,y1.a,y1.t.text,0,0⟩:Nd)=jr 21 y1:=HE.out
     exact hx.res (aH ..) (by rw[he];exact hq) (dD (by decide) (by decide))
theorem Wm(n:Nat)(c0:∀m,m<n->pU 98 (.int .i64 10) .un m)(cp:nO 137 .po n):pU 98 (.int .i64 10) .un n:=by
 intro W rb l st y hx0 hn
 cases st with
 | error f=>exact rD hx0
 | ok s=>
  have hx:=Rt.start hx0
  have HS:=hid hx0.ok
  have HN:=hid hn
  clear hx0
  cases g1:bR Cy (.ok s)
  ·cases g2:bR Ct (.ok s)
   ·go_enter func98,ntmps98
    go_wp2_with (first|((with_reducible (apply Calls.mono;first|exact dH hx.x|exact Rt.nG hx _ (by decide) (by assumption)));rintro x w2 ⟨rfl,hw⟩;(have hw':=hw.symm);subst hw';clear hw)|(go_at_call 137;(with_reducible refine(Rt.part hx cp hn).mono ?_);rintro x w2 ⟨b1,m1,k1,st1,y1,rfl,hx2,ho1,hc1,hm1⟩;(replace hx:=hx2);clear hx2))
    go_ret
    refine hx.res (aH ..) (RG HS.out ?_ ho1) hc1
    rintro(q|q)
    ·rw[(ak HS.out).2 q] at g1;cases g1
    ·rw[(ak HS.out).2 q] at g2;cases g2
   ·skip
    have wm:=sI hx.ok (by decide) g2
    have HE:=hid (vR wm hx.x.clean 22)
    have MR:y.t.kind≠7:=by omega
    have F7:=hid MR
    clear wm MR
    go_enter func98,ntmps98
    go_upto_region 28 with((with_reducible (apply Calls.mono;first|exact dH hx.x|exact Rt.nG hx _ (by decide) g1|exact Rt.lX hx _ (by decide) g2));rintro x w2 ⟨rfl,hw⟩;(have hw':=hw.symm);subst hw';clear hw)
    obtain⟨_,c1',c2,c3,c4,c5⟩:=hx.cells
    go_upto_region 29 with fail
    obtain⟨tb,htb,jg⟩:=hx.mq y
    rw[htb]
    (replace hx:=jg);clear jg htb c1' c2 c3 c4 c5
    generalize bO _ _=w9 at *
    go_upto_region 30 with(go_at_call 12;(with_reducible refine(Rt.step hx F7.out).mono ?_);rintro x w2 ⟨rfl,y2,hx2,q2⟩;(replace hx:=hx2);clear hx2)
    replace hx:=hx.drew
    have hS:=hx.tok (tb:=_) (z:=y) (aH ..)
    refine wp_region_held_drew (S:=λw'=>w'.cell? ⟨tb,0,none⟩=some (.int .i64 y.t.kind)/\w'.cell? ⟨tb,1,none⟩=some (.int .i64 y.a)/\w'.cell? ⟨tb,2,none⟩=some (.string y.t.text)/\w'.cell? ⟨tb,3,none⟩=some (.int .i64 y.t.int)/\w'.cell? ⟨tb,4,none⟩=some (.int .u64 y.t.bits)) (by kernel_rfl) hS ?_
    clear hS
    intro hS
    iterate 5 ((refine It.nH 0 ?_ rfl (by kernel_rfl) (λ_ _ _ h=>h) (Or.inl ⟨by rfl,?_⟩) hS ?_);rotate_left;(focus (intro w' hSw;(obtain⟨s0,s1,s2,s3,s4⟩:=hSw);go_simp;(try with_reducible rfl)));(try simp only[Act.put,aW,aV,aU,aT,aS,aR]))
    refine wpAnyH_ready (rs:=[5]) (by kernel_rfl) (by simp) ?_
    refine aY rfl (λK hK=>?_) ay
    go_simp
    refine(Rt.jD hx (c0 (mu (bJ (.ok s))) (eU q2 HN.out)) (aL _)).mono ?_
    rintro x w2 ⟨b3,m3,k3,gT,y3,rfl,hx2,ho3,hc3,xw⟩
    replace hx:=hx2
    clear hx2
    refine hK.out _ _ (hx.tok (tb:=_) (z:=y) (aH ..)) (λhS2=>?_)
    clear hK K hS
    (have hS:=hS2);clear hS2
    (try simp only[Act.put,aW,aV,aU,aT,aS,aR])
    refine wpAnyH_ready (rs:=[6]) (by kernel_rfl) (by simp) ?_
    refine aY rfl (λK hK=>?_) ay
    go_simp
    refine hK.out _ _ ((hx.alloc (.cells #[ptr b3] 40)).tok (tb:=_) (z:=y) (aH ..)) (λhS2=>?_)
    clear hK K hS
    (have hS:=hS2);clear hS2
    (try simp only[Act.put,aW,aV,aU,aT,aS,aR])
    refine wpAnyH_ready (rs:=[7]) (by kernel_rfl) (by simp) ?_
    refine aY rfl (λK hK=>?_) ay
    go_simp
    refine(Rt.Od (b1:=b3) (f1:=Fo.one m3 k3) hx _ _ _ (by simp)).mono ?_
    rintro x w2 ⟨b0,rfl,hx2⟩
    replace hx:=hx2
    clear hx2
    refine hK.out _ _ (hx.tok (tb:=_) (z:=y) (aH ..)) (λhS2=>?_)
    clear hK K hS
    (have hS:=hS2);clear hS2
    (try simp only[Act.put,aW,aV,aU,aT,aS,aR])
    refine wpAnyH_ready (rs:=[8]) (by kernel_rfl) (by simp) ?_
    refine aY rfl (λK hK=>?_) ay
    go_simp
    refine hK.out _ _ (hx.tok (tb:=_) (z:=y) (aH ..)) (λhS2=>?_)
    clear hK K hS
    (have hS:=hS2);clear hS2
    (try simp only[Act.put,aW,aV,aU,aT,aS,aR])
    refine wpAnyH_done (by kernel_rfl) ?_ _
    go_wp2_with fail
    go_ret
    have hq:=QC HS.out (.inr ((ak HS.out).1 g2)) ho3
    have he:(⟨22,y.a,y.t.text,0,0⟩:Nd)=jr 22 y:=HE.out
    exact hx.res (aH ..) (by rw[he];exact hq) (dD (by decide) (by decide))
  ·skip
   have wm:=sI hx.ok (by decide) g1
   have HE:=hid (vR wm hx.x.clean 22)
   have MR:y.t.kind≠7:=by omega
   have F7:=hid MR
   clear wm MR
   go_enter func98,ntmps98
   go_upto_region 28 with((with_reducible (apply Calls.mono;first|exact dH hx.x|exact Rt.lX hx _ (by decide) g1));rintro x w2 ⟨rfl,hw⟩;(have hw':=hw.symm);subst hw';clear hw)
   obtain⟨_,c1',c2,c3,c4,c5⟩:=hx.cells
   go_upto_region 29 with fail
   obtain⟨tb,htb,jg⟩:=hx.mq y
   rw[htb]
   (replace hx:=jg);clear jg htb c1' c2 c3 c4 c5
   generalize bO _ _=w9 at *
   go_upto_region 30 with(go_at_call 12;(with_reducible refine(Rt.step hx F7.out).mono ?_);rintro x w2 ⟨rfl,y2,hx2,q2⟩;(replace hx:=hx2);clear hx2)
   replace hx:=hx.drew
   have hS:=hx.tok (tb:=_) (z:=y) (aH ..)
   refine wp_region_held_drew (S:=λw'=>w'.cell? ⟨tb,0,none⟩=some (.int .i64 y.t.kind)/\w'.cell? ⟨tb,1,none⟩=some (.int .i64 y.a)/\w'.cell? ⟨tb,2,none⟩=some (.string y.t.text)/\w'.cell? ⟨tb,3,none⟩=some (.int .i64 y.t.int)/\w'.cell? ⟨tb,4,none⟩=some (.int .u64 y.t.bits)) (by kernel_rfl) hS ?_
   clear hS
   intro hS
   iterate 5 ((refine It.nH 0 ?_ rfl (by kernel_rfl) (λ_ _ _ h=>h) (Or.inl ⟨by rfl,?_⟩) hS ?_);rotate_left;(focus (intro w' hSw;(obtain⟨s0,s1,s2,s3,s4⟩:=hSw);go_simp;(try with_reducible rfl)));(try simp only[Act.put,aW,aV,aU,aT,aS,aR]))
   refine wpAnyH_ready (rs:=[5]) (by kernel_rfl) (by simp) ?_
   refine aY rfl (λK hK=>?_) ay
   go_simp
   refine(Rt.jD hx (c0 (mu (bJ (.ok s))) (eU q2 HN.out)) (aL _)).mono ?_
   rintro x w2 ⟨b3,m3,k3,gT,y3,rfl,hx2,ho3,hc3,xw⟩
   replace hx:=hx2
   clear hx2
   refine hK.out _ _ (hx.tok (tb:=_) (z:=y) (aH ..)) (λhS2=>?_)
   clear hK K hS
   (have hS:=hS2);clear hS2
   (try simp only[Act.put,aW,aV,aU,aT,aS,aR])
   refine wpAnyH_ready (rs:=[6]) (by kernel_rfl) (by simp) ?_
   refine aY rfl (λK hK=>?_) ay
   go_simp
   refine hK.out _ _ ((hx.alloc (.cells #[ptr b3] 40)).tok (tb:=_) (z:=y) (aH ..)) (λhS2=>?_)
   clear hK K hS
   (have hS:=hS2);clear hS2
   (try simp only[Act.put,aW,aV,aU,aT,aS,aR])
   refine wpAnyH_ready (rs:=[7]) (by kernel_rfl) (by simp) ?_
   refine aY rfl (λK hK=>?_) ay
   go_simp
   refine(Rt.Od (b1:=b3) (f1:=Fo.one m3 k3) hx _ _ _ (by simp)).mono ?_
   rintro x w2 ⟨b0,rfl,hx2⟩
   replace hx:=hx2
   clear hx2
   refine hK.out _ _ (hx.tok (tb:=_) (z:=y) (aH ..)) (λhS2=>?_)
   clear hK K hS
   (have hS:=hS2);clear hS2
   (try simp only[Act.put,aW,aV,aU,aT,aS,aR])
   refine wpAnyH_ready (rs:=[8]) (by kernel_rfl) (by simp) ?_
   refine aY rfl (λK hK=>?_) ay
   go_simp
   refine hK.out _ _ (hx.tok (tb:=_) (z:=y) (aH ..)) (λhS2=>?_)
   clear hK K hS
   (have hS:=hS2);clear hS2
   (try simp only[Act.put,aW,aV,aU,aT,aS,aR])
   refine wpAnyH_done (by kernel_rfl) ?_ _
   go_wp2_with fail
   go_ret
   have hq:=QC HS.out (.inl ((ak HS.out).1 g1)) ho3
   have he:(⟨22,y.a,y.t.text,0,0⟩:Nd)=jr 22 y:=HE.out
   exact hx.res (aH ..) (by rw[he];exact hq) (dD (by decide) (by decide))
theorem LJ{W:World}{rb:Nat}{l:ByteArray}{s:Cs}{y:Yd}(hx0:Rx W W rb l (.ok s) y [])(hk:y.t.kind=4):Calls prog 156 #[ptr rb] W (qH W rb l .pr (.ok s)):=by
  have hx:=Rt.start hx0
  have HS:=hid hx0.ok
  have HC:=hid hx0.clean
  have HK:=hid hk
  have F7:=hid (show y.t.kind≠7 by omega)
  clear hx0
  have b4:(y.t.kind==4)=true:=by simp[hk]
  clear hk
  go_enter func156,ntmps156
  go_upto_region 3 with(go_at_call 10;(with_reducible refine(dH hx.x).mono ?_);rintro x w2 ⟨rfl,hw⟩;(have hw':=hw.symm);subst hw';clear hw)
  obtain⟨_,c1',c2,c3,c4,c5⟩:=hx.cells
  go_upto_region 4 with fail
  obtain⟨tb,htb,jg⟩:=hx.mq y
  rw[htb]
  (replace hx:=jg);clear jg htb c1' c2 c3 c4 c5
  generalize bO _ _=w9 at *
  obtain⟨t0,t1,t2,t3,t4⟩:=hx.tok (aH ..)
  go_upto_region 8 with(first|(go_at_call 12;(with_reducible refine(Rt.step hx F7.out).mono ?_);rintro x w2 ⟨rfl,y2,hx2,q2⟩;(replace hx:=hx2);clear hx2;clear t0 t1 t2 t3 t4;(obtain⟨t0,t1,t2,t3,t4⟩:=hx.tok (aH ..)))|(go_at_call 9;(with_reducible refine(Rt.nd0 hx _ _ _).mono ?_);rintro x w2 ⟨b1,rfl,hx2⟩;(replace hx:=hx2);clear hx2))
  obtain⟨u,hrow⟩:=hx.row (b:=b1) (aH ..)
  have zr:=aC hrow
  have er:=aA hrow
  (obtain⟨t0,t1,t2,t3,t4⟩:=hx.tok (aH ..))
  have hx3:=hx.set (nd':=⟨26,y.a,⟨#[]⟩,y.t.int,0⟩) (b:=b1) (aH ..) 4 (.int .i64 y.t.int) (λu=>rfl)
  have HX:=hid hx3
  clear hrow hx hx3
  go_wp2_with fail
  go_ret
  have hq:=AA HS.out (.inl HK.out)
  have hn:jr (if y.t.kind=4 then 26 else if y.t.kind=5 then 27 else 28) y=⟨26,y.a,⟨#[]⟩,y.t.int,0⟩:=by
   rw[HK.out]
   unfold jr
   rw[HC.out.2.2.1 (.inl HK.out),HC.out.2.1 (by rw[HK.out];decide)]
   rfl
  rw[hn] at hq
  exact HX.out.res (aH ..) hq (dD (by decide) (by decide))
theorem LK{W:World}{rb:Nat}{l:ByteArray}{s:Cs}{y:Yd}(hx0:Rx W W rb l (.ok s) y [])(hk:y.t.kind=5):Calls prog 156 #[ptr rb] W (qH W rb l .pr (.ok s)):=by
  have hx:=Rt.start hx0
  have HS:=hid hx0.ok
  have HC:=hid hx0.clean
  have HK:=hid hk
  have F7:=hid (show y.t.kind≠7 by omega)
  clear hx0
  have b4:(y.t.kind==4)=false:=by simp[hk]
  have b5:(y.t.kind==5)=true:=by simp[hk]
  clear hk
  go_enter func156,ntmps156
  go_upto_region 3 with(go_at_call 10;(with_reducible refine(dH hx.x).mono ?_);rintro x w2 ⟨rfl,hw⟩;(have hw':=hw.symm);subst hw';clear hw)
  obtain⟨_,c1',c2,c3,c4,c5⟩:=hx.cells
  go_upto_region 4 with fail
  obtain⟨tb,htb,jg⟩:=hx.mq y
  rw[htb]
  (replace hx:=jg);clear jg htb c1' c2 c3 c4 c5
  generalize bO _ _=w9 at *
  obtain⟨t0,t1,t2,t3,t4⟩:=hx.tok (aH ..)
  go_upto_region 13 with(first|(go_at_call 12;(with_reducible refine(Rt.step hx F7.out).mono ?_);rintro x w2 ⟨rfl,y2,hx2,q2⟩;(replace hx:=hx2);clear hx2;clear t0 t1 t2 t3 t4;(obtain⟨t0,t1,t2,t3,t4⟩:=hx.tok (aH ..)))|(go_at_call 9;(with_reducible refine(Rt.nd0 hx _ _ _).mono ?_);rintro x w2 ⟨b1,rfl,hx2⟩;(replace hx:=hx2);clear hx2))
  obtain⟨u,hrow⟩:=hx.row (b:=b1) (aH ..)
  have zr:=aC hrow
  have er:=aA hrow
  (obtain⟨t0,t1,t2,t3,t4⟩:=hx.tok (aH ..))
  have hx3:=hx.set (nd':=⟨27,y.a,⟨#[]⟩,0,y.t.bits⟩) (b:=b1) (aH ..) 5 (.int .u64 y.t.bits) (λu=>rfl)
  have HX:=hid hx3
  clear hrow hx hx3
  go_wp2_with fail
  go_ret
  have hq:=AA HS.out (.inr (.inl HK.out))
  have hn:jr (if y.t.kind=4 then 26 else if y.t.kind=5 then 27 else 28) y=⟨27,y.a,⟨#[]⟩,0,y.t.bits⟩:=by
   rw[HK.out]
   unfold jr
   rw[HC.out.2.2.1 (.inr HK.out),HC.out.1 (by rw[HK.out];decide)]
   rfl
  rw[hn] at hq
  exact HX.out.res (aH ..) hq (dD (by decide) (by decide))
theorem LD{W:World}{rb:Nat}{l:ByteArray}{s:Cs}{y:Yd}(hx0:Rx W W rb l (.ok s) y [])(hk:y.t.kind=6):Calls prog 156 #[ptr rb] W (qH W rb l .pr (.ok s)):=by
  have hx:=Rt.start hx0
  have HS:=hid hx0.ok
  have HC:=hid hx0.clean
  have HK:=hid hk
  have F7:=hid (show y.t.kind≠7 by omega)
  clear hx0
  have b4:(y.t.kind==4)=false:=by simp[hk]
  have b5:(y.t.kind==5)=false:=by simp[hk]
  have b6:(y.t.kind==6)=true:=by simp[hk]
  clear hk
  go_enter func156,ntmps156
  go_upto_region 3 with(go_at_call 10;(with_reducible refine(dH hx.x).mono ?_);rintro x w2 ⟨rfl,hw⟩;(have hw':=hw.symm);subst hw';clear hw)
  obtain⟨_,c1',c2,c3,c4,c5⟩:=hx.cells
  go_upto_region 4 with fail
  obtain⟨tb,htb,jg⟩:=hx.mq y
  rw[htb]
  (replace hx:=jg);clear jg htb c1' c2 c3 c4 c5
  generalize bO _ _=w9 at *
  obtain⟨t0,t1,t2,t3,t4⟩:=hx.tok (aH ..)
  go_wp2_with (first|(go_at_call 12;(with_reducible refine(Rt.step hx F7.out).mono ?_);rintro x w2 ⟨rfl,y2,hx2,q2⟩;(replace hx:=hx2);clear hx2;clear t0 t1 t2 t3 t4;(obtain⟨t0,t1,t2,t3,t4⟩:=hx.tok (aH ..)))|(go_at_call 9;(with_reducible refine(Rt.nd0 hx _ _ _).mono ?_);rintro x w2 ⟨b1,rfl,hx2⟩;(replace hx:=hx2);clear hx2))
  go_ret
  have hq:=AA HS.out (.inr (.inr HK.out))
  have hn:jr (if y.t.kind=4 then 26 else if y.t.kind=5 then 27 else 28) y=⟨28,y.a,y.t.text,0,0⟩:=by
   rw[<- Rx.rW ⟨by rw[HK.out];decide,by rw[HK.out];decide⟩ HC.out]
   rw[HK.out]
   rfl
  rw[hn] at hq
  exact hx.res (aH ..) hq (dD (by decide) (by decide))
theorem IY{W:World}{rb:Nat}{l:ByteArray}{s:Cs}{y:Yd}{n:Nat}(ce:∀m,m<n->nO 71 .ex m)(hn:mu (.ok s)<=n)(hx0:Rx W W rb l (.ok s) y [])(hk:¬ (y.t.kind=1\/y.t.kind=4\/y.t.kind=5\/y.t.kind=6))(g1:bR kF (.ok s)=true):Calls prog 156 #[ptr rb] W (qH W rb l .pr (.ok s)):=by
  have hx:=Rt.start hx0
  have HS:=hid hx0.ok
  have HC:=hid hx0.clean
  have HN:=hid hn
  have hk2:y.t.kind=2:=by
   rcases sI hx0.ok (by decide) g1 with h|h
   ·exact h
   ·have:=hx0.clean.2.2.2.2 h
    have h3:=(ak hx0.ok).1 g1
    unfold aG at h3
    rw[if_pos (.inr h)] at h3
    simp[h3] at this
  have sZ:=hid hk2
  clear hk2
  clear hx0
  have b4:(y.t.kind==4)=false:=by simp;omega
  have b5:(y.t.kind==5)=false:=by simp;omega
  have b6:(y.t.kind==6)=false:=by simp;omega
  have b1:(y.t.kind==1)=false:=by simp;omega
  have HK:=hid hk
  clear hk
  go_enter func156,ntmps156
  go_upto_region 3 with(go_at_call 10;(with_reducible refine(dH hx.x).mono ?_);rintro x w2 ⟨rfl,hw⟩;(have hw':=hw.symm);subst hw';clear hw)
  obtain⟨_,c1',c2,c3,c4,c5⟩:=hx.cells
  go_upto_region 4 with fail
  obtain⟨tb,htb,jg⟩:=hx.mq y
  rw[htb]
  (replace hx:=jg);clear jg htb c1' c2 c3 c4 c5
  generalize bO _ _=w9 at *
  obtain⟨t0,t1,t2,t3,t4⟩:=hx.tok (aH ..)
  go_wp2_with (first|((with_reducible (apply Calls.mono;first|exact Rt.lX hx _ (by decide) (by assumption)|exact Rt.nG hx _ (by decide) (by assumption)));rintro x w2 ⟨rfl,hw⟩;(have hw':=hw.symm);subst hw';clear hw)|(go_at_call 12;(with_reducible refine(Rt.stepT hx kF (by decide) g1).mono ?_);rintro x w2 ⟨rfl,y2,hx2,q2⟩;(replace hx:=hx2);clear hx2;clear t0 t1 t2 t3 t4;(obtain⟨t0,t1,t2,t3,t4⟩:=hx.tok (aH ..)))|(go_at_call 9;(with_reducible refine(Rt.nd0 hx _ _ _).mono ?_);rintro x w2 ⟨b1,rfl,hx2⟩;(replace hx:=hx2);clear hx2))
  go_ret
  exact hx.res (aH ..) (vG HS.out sZ.out (Nr HS.out g1)) (dD (by decide) (by decide))
theorem EU{W:World}{rb:Nat}{l:ByteArray}{s:Cs}{y:Yd}{n:Nat}(ce:∀m,m<n->nO 71 .ex m)(hn:mu (.ok s)<=n)(hx0:Rx W W rb l (.ok s) y [])(hk:¬ (y.t.kind=1\/y.t.kind=4\/y.t.kind=5\/y.t.kind=6))(g1:bR kF (.ok s)=false)(g2:bR jG (.ok s)=true):Calls prog 156 #[ptr rb] W (qH W rb l .pr (.ok s)):=by
  have hx:=Rt.start hx0
  have HS:=hid hx0.ok
  have HC:=hid hx0.clean
  have HN:=hid hn
  have hk2:y.t.kind=2:=by
   rcases sI hx0.ok (by decide) g2 with h|h
   ·exact h
   ·have:=hx0.clean.2.2.2.2 h
    have h3:=(ak hx0.ok).1 g2
    unfold aG at h3
    rw[if_pos (.inr h)] at h3
    simp[h3] at this
  have sZ:=hid hk2
  clear hk2
  clear hx0
  have b4:(y.t.kind==4)=false:=by simp;omega
  have b5:(y.t.kind==5)=false:=by simp;omega
  have b6:(y.t.kind==6)=false:=by simp;omega
  have b1:(y.t.kind==1)=false:=by simp;omega
  have HK:=hid hk
  clear hk
  go_enter func156,ntmps156
  go_upto_region 3 with(go_at_call 10;(with_reducible refine(dH hx.x).mono ?_);rintro x w2 ⟨rfl,hw⟩;(have hw':=hw.symm);subst hw';clear hw)
  obtain⟨_,c1',c2,c3,c4,c5⟩:=hx.cells
  go_upto_region 4 with fail
  obtain⟨tb,htb,jg⟩:=hx.mq y
  rw[htb]
  (replace hx:=jg);clear jg htb c1' c2 c3 c4 c5
  generalize bO _ _=w9 at *
  obtain⟨t0,t1,t2,t3,t4⟩:=hx.tok (aH ..)
  go_wp2_with (first|((with_reducible (apply Calls.mono;first|exact Rt.lX hx _ (by decide) (by assumption)|exact Rt.nG hx _ (by decide) (by assumption)));rintro x w2 ⟨rfl,hw⟩;(have hw':=hw.symm);subst hw';clear hw)|(go_at_call 12;(with_reducible refine(Rt.stepT hx jG (by decide) g2).mono ?_);rintro x w2 ⟨rfl,y2,hx2,q2⟩;(replace hx:=hx2);clear hx2;clear t0 t1 t2 t3 t4;(obtain⟨t0,t1,t2,t3,t4⟩:=hx.tok (aH ..)))|(go_at_call 9;(with_reducible refine(Rt.nd0 hx _ _ _).mono ?_);rintro x w2 ⟨b1,rfl,hx2⟩;(replace hx:=hx2);clear hx2))
  go_ret
  exact hx.res (aH ..) (vG HS.out sZ.out (Jy HS.out g2)) (dD (by decide) (by decide))
theorem LH{W:World}{rb:Nat}{l:ByteArray}{s:Cs}{y:Yd}{n:Nat}(ce:∀m,m<n->nO 71 .ex m)(hn:mu (.ok s)<=n)(hx0:Rx W W rb l (.ok s) y [])(hk:¬ (y.t.kind=1\/y.t.kind=4\/y.t.kind=5\/y.t.kind=6))(g1:bR kF (.ok s)=false)(g2:bR jG (.ok s)=false)(g3:bR oG (.ok s)=true):Calls prog 156 #[ptr rb] W (qH W rb l .pr (.ok s)):=by
  have hx:=Rt.start hx0
  have HS:=hid hx0.ok
  have HC:=hid hx0.clean
  have HN:=hid hn
  have hk2:y.t.kind=2:=by
   rcases sI hx0.ok (by decide) g3 with h|h
   ·exact h
   ·have:=hx0.clean.2.2.2.2 h
    have h3:=(ak hx0.ok).1 g3
    unfold aG at h3
    rw[if_pos (.inr h)] at h3
    simp[h3] at this
  have sZ:=hid hk2
  clear hk2
  clear hx0
  have b4:(y.t.kind==4)=false:=by simp;omega
  have b5:(y.t.kind==5)=false:=by simp;omega
  have b6:(y.t.kind==6)=false:=by simp;omega
  have b1:(y.t.kind==1)=false:=by simp;omega
  have HK:=hid hk
  clear hk
  go_enter func156,ntmps156
  go_upto_region 3 with(go_at_call 10;(with_reducible refine(dH hx.x).mono ?_);rintro x w2 ⟨rfl,hw⟩;(have hw':=hw.symm);subst hw';clear hw)
  obtain⟨_,c1',c2,c3,c4,c5⟩:=hx.cells
  go_upto_region 4 with fail
  obtain⟨tb,htb,jg⟩:=hx.mq y
  rw[htb]
  (replace hx:=jg);clear jg htb c1' c2 c3 c4 c5
  generalize bO _ _=w9 at *
  obtain⟨t0,t1,t2,t3,t4⟩:=hx.tok (aH ..)
  go_wp2_with (first|((with_reducible (apply Calls.mono;first|exact Rt.lX hx _ (by decide) (by assumption)|exact Rt.nG hx _ (by decide) (by assumption)));rintro x w2 ⟨rfl,hw⟩;(have hw':=hw.symm);subst hw';clear hw)|(go_at_call 12;(with_reducible refine(Rt.stepT hx oG (by decide) g3).mono ?_);rintro x w2 ⟨rfl,y2,hx2,q2⟩;(replace hx:=hx2);clear hx2;clear t0 t1 t2 t3 t4;(obtain⟨t0,t1,t2,t3,t4⟩:=hx.tok (aH ..)))|(go_at_call 9;(with_reducible refine(Rt.nd0 hx _ _ _).mono ?_);rintro x w2 ⟨b1,rfl,hx2⟩;(replace hx:=hx2);clear hx2))
  go_ret
  exact hx.res (aH ..) (vG HS.out sZ.out (by have:=Jw (st1:=Tr.aN oG (.ok s)) HS.out g1 g2 rfl;rwa [gF HS.out g3] at this)) (dD (by decide) (by decide))
theorem LG{W:World}{rb:Nat}{l:ByteArray}{s:Cs}{y:Yd}{n:Nat}(ce:∀m,m<n->nO 71 .ex m)(hn:mu (.ok s)<=n)(hx0:Rx W W rb l (.ok s) y [])(hk:¬ (y.t.kind=1\/y.t.kind=4\/y.t.kind=5\/y.t.kind=6))(g1:bR kF (.ok s)=false)(g2:bR jG (.ok s)=false)(g3:bR oG (.ok s)=false)(g4:bR gH (.ok s)=true):Calls prog 156 #[ptr rb] W (qH W rb l .pr (.ok s)):=by
  have hx:=Rt.start hx0
  have HS:=hid hx0.ok
  have HC:=hid hx0.clean
  have HN:=hid hn
  have hk2:y.t.kind≠2:=by
   intro h
   have:=hx0.clean.2.2.2.1 h
   have h3:=(ak hx0.ok).1 g4
   unfold aG at h3
   rw[if_pos (.inl h)] at h3
   simp[h3] at this
  have sZ:=hid hk2
  clear hk2
  clear hx0
  have b4:(y.t.kind==4)=false:=by simp;omega
  have b5:(y.t.kind==5)=false:=by simp;omega
  have b6:(y.t.kind==6)=false:=by simp;omega
  have b1:(y.t.kind==1)=false:=by simp;omega
  have HK:=hid hk
  clear hk
  go_enter func156,ntmps156
  go_upto_region 3 with(go_at_call 10;(with_reducible refine(dH hx.x).mono ?_);rintro x w2 ⟨rfl,hw⟩;(have hw':=hw.symm);subst hw';clear hw)
  obtain⟨_,c1',c2,c3,c4,c5⟩:=hx.cells
  go_upto_region 4 with fail
  obtain⟨tb,htb,jg⟩:=hx.mq y
  rw[htb]
  (replace hx:=jg);clear jg htb c1' c2 c3 c4 c5
  generalize bO _ _=w9 at *
  obtain⟨t0,t1,t2,t3,t4⟩:=hx.tok (aH ..)
  go_wp2_with (first|((with_reducible (apply Calls.mono;first|exact Rt.lX hx _ (by decide) (by assumption)|exact Rt.nG hx _ (by decide) (by assumption)));rintro x w2 ⟨rfl,hw⟩;(have hw':=hw.symm);subst hw';clear hw)|(go_at_call 12;(with_reducible refine(Rt.stepT hx gH (by decide) g4).mono ?_);rintro x w2 ⟨rfl,y2,hx2,q2⟩;(replace hx:=hx2);clear hx2;clear t0 t1 t2 t3 t4;(obtain⟨t0,t1,t2,t3,t4⟩:=hx.tok (aH ..)))|(go_at_call 71;(with_reducible refine(Rt.part hx (ce (mu (bJ (.ok s))) (eU q2 HN.out)) (aL _)).mono ?_);rintro x w2 ⟨b3,m3,k3,gT,y3,rfl,hx2,ho3,hc3,xw⟩;(replace hx:=hx2);clear hx2)|(go_at_call 14;(with_reducible refine(Rt.want hx _ (by decide)).mono ?_);rintro x w2 ⟨rfl,y4,hx2,q4⟩;(replace hx:=hx2);clear hx2))
  go_ret
  exact hx.res (aH ..) (LP HS.out (by have:=HK.out;have:=sZ.out;omega) rfl (by rw[gF HS.out g4];exact ho3) rfl) hc3
theorem IZ{W:World}{rb:Nat}{l:ByteArray}{s:Cs}{y:Yd}{n:Nat}(ce:∀m,m<n->nO 71 .ex m)(hn:mu (.ok s)<=n)(hx0:Rx W W rb l (.ok s) y [])(hk:¬ (y.t.kind=1\/y.t.kind=4\/y.t.kind=5\/y.t.kind=6))(g1:bR kF (.ok s)=false)(g2:bR jG (.ok s)=false)(g3:bR oG (.ok s)=false)(g4:bR gH (.ok s)=false):Calls prog 156 #[ptr rb] W (qH W rb l .pr (.ok s)):=by
  have hx:=Rt.start hx0
  have HS:=hid hx0.ok
  have HC:=hid hx0.clean
  have HN:=hid hn
  clear hx0
  have b4:(y.t.kind==4)=false:=by simp;omega
  have b5:(y.t.kind==5)=false:=by simp;omega
  have b6:(y.t.kind==6)=false:=by simp;omega
  have b1:(y.t.kind==1)=false:=by simp;omega
  have HK:=hid hk
  clear hk
  go_enter func156,ntmps156
  go_upto_region 3 with(go_at_call 10;(with_reducible refine(dH hx.x).mono ?_);rintro x w2 ⟨rfl,hw⟩;(have hw':=hw.symm);subst hw';clear hw)
  obtain⟨_,c1',c2,c3,c4,c5⟩:=hx.cells
  go_upto_region 4 with fail
  obtain⟨tb,htb,jg⟩:=hx.mq y
  rw[htb]
  (replace hx:=jg);clear jg htb c1' c2 c3 c4 c5
  generalize bO _ _=w9 at *
  obtain⟨t0,t1,t2,t3,t4⟩:=hx.tok (aH ..)
  go_wp2_with (first|(go_at_call 11;(with_reducible refine(Rt.nG hx _ (by decide) (by assumption)).mono ?_);rintro x w2 ⟨rfl,hw⟩;(have hw':=hw.symm);subst hw';clear hw)|(go_at_call 16;(with_reducible refine(Rt.wrong hx).mono ?_);rintro x w2 ⟨b1,rfl,hx2⟩;(replace hx:=hx2);clear hx2))
  go_ret
  refine hx.res (aH ..) ?_ (dD (by decide) (by decide))
  have U0:jI (.ok s)=.error (70,y.a):=by
   show Except.error (70,(qA s).a)=_
   rw[(dS HS.out).1]
  by_cases h2:y.t.kind=2
  ·have:=Jw (st1:=Tr.aN oG (.ok s)) HS.out g1 g2 rfl
   rw[jA HS.out g3] at this
   rw[U0]
   exact(vG HS.out h2 this.other)
  ·rw[U0]
   refine LP HS.out (by have:=HK.out;omega) rfl (st2:=.error (70,y.a)) ?_ rfl
   rw[jA HS.out g4]
   exact aO.bad
theorem aO.GY{p:Nt}{s:Cs}{st':Se}{o:Option Fo}{y:Yd}(h:aO p (Except.ok s) st' o)(hl:1<=least p)(hs:look s=.ok y):Tr.mu st'<Tr.mu (Except.ok s):=by
 obtain⟨n,r,h1,h2⟩:=h
 match r,h1,h2 with
 | .error e,h1,h2=>
  have:st'=.error e:=h2
  rw[this]
  exact sD hs
 | .ok (a,s'),h1,⟨h2,h3⟩=>
  rw[h2]
  have:=lT h1
  exact Nat.lt_of_le_of_lt (AY s') (by show _<s.r.length;omega)
theorem wX{b:Bool}{st:Se}{y:Yd}(hs:∀s,st=.ok s->look s=.ok y)(hw:bR fM st=false):F6 b st .nil st:=by
 cases st with
 | error e=>exact λst1 r? st2 o h g=>g.errs e (h.errs e rfl)
 | ok s=>exact Ep (hs s rfl) hw
theorem p9(k:Fo)(m:Nd)(ks:Fo):(k.app (Fo.one m ks)).len=k.len+1:=by
 rw[Fo.gq]
 rfl
theorem I4{W:World}{rb:Nat}{l:ByteArray}{s:Cs}{y:Yd}{n:Nat}(ce:∀m,m<n->nO 71 .ex m)(hn:mu (.ok s)<=n)(hx0:Rx W W rb l (.ok s) y [])(hk:y.t.kind=1):Calls prog 156 #[ptr rb] W (qH W rb l .pr (.ok s)):=by
  have hx:=Rt.start hx0
  have HS:=hid hx0.ok
  have HC:=hid hx0.clean
  have HN:=hid hn
  have HK:=hid hk
  have F7:=hid (show y.t.kind≠7 by omega)
  have HE:=λk=>hid (Rx.rW (k:=k) (y:=y) ⟨by omega,by omega⟩ hx0.clean)
  clear hx0
  have b4:(y.t.kind==4)=false:=by simp[hk]
  have b5:(y.t.kind==5)=false:=by simp[hk]
  have b6:(y.t.kind==6)=false:=by simp[hk]
  have b1:(y.t.kind==1)=true:=by simp[hk]
  clear hk hn
  go_enter func156,ntmps156
  go_upto_region 3 with(go_at_call 10;(with_reducible refine(dH hx.x).mono ?_);rintro x w2 ⟨rfl,hw⟩;(have hw':=hw.symm);subst hw';clear hw)
  obtain⟨_,c1',c2,c3,c4,c5⟩:=hx.cells
  go_upto_region 4 with fail
  obtain⟨tb,htb,jg⟩:=hx.mq y
  rw[htb]
  (replace hx:=jg);clear jg htb c1' c2 c3 c4 c5
  generalize bO _ _=w9 at *
  obtain⟨t0,t1,t2,t3,t4⟩:=hx.tok (aH ..)
  go_upto_region 20 with(go_at_call 12;(with_reducible refine(Rt.step hx F7.out).mono ?_);rintro x w2 ⟨rfl,y2,hx2,q2⟩;(replace hx:=hx2);clear hx2;clear t0 t1 t2 t3 t4;(obtain⟨t0,t1,t2,t3,t4⟩:=hx.tok (aH ..)))
  obtain⟨st1,Af⟩:∃st1,bJ (.ok s)=st1:=⟨_,rfl⟩
  rw[Af] at hx q2
  have HST:=hid Af
  clear Af
  cases g1:bR gH st1
  ·have HY:=hid hx.wN
   go_wp2_with (first|(go_at_call 11;(with_reducible refine(Rt.nG hx _ (by decide) g1).mono ?_);rintro x w2 ⟨rfl,hw⟩;(have hw':=hw.symm);subst hw';clear hw)|(go_at_call 9;(with_reducible refine(Rt.nd0 hx _ _ _).mono ?_);rintro x w2 ⟨b1,rfl,hx2⟩;(replace hx:=hx2);clear hx2))
   go_ret
   have ho:aO .nm (.ok s) st1 (some (Fo.one ⟨25,y.a,y.t.text,0,0⟩ .nil)):=by
    rw[(HE 25).out]
    cases st1 with
    | error e=>exact SA HS.out HK.out HST.out
    | ok s1=>exact Oc HS.out HK.out HST.out (HY.out s1 rfl) g1
   exact hx.res (aH ..) (GA HS.out HK.out ho) ⟨λ_=>⟨rfl,rfl,rfl⟩,λe=>absurd e (show ¬ (25:Int)=24 by decide)⟩
  ·cases st1 with
   | error e=>cases g1
   | ok s1=>
    have HY:=hid hx.ok
    go_upto_region 24 with(first|(go_at_call 11;(with_reducible refine(Rt.lX hx _ (by decide) g1).mono ?_);rintro x w2 ⟨rfl,hw⟩;(have hw':=hw.symm);subst hw';clear hw)|(go_at_call 12;(with_reducible refine(Rt.stepT hx gH (by decide) g1).mono ?_);rintro x w2 ⟨rfl,y3,hx2,q3⟩;(replace hx:=hx2);clear hx2;clear t0 t1 t2 t3 t4;(obtain⟨t0,t1,t2,t3,t4⟩:=hx.tok (aH ..)))|(go_at_call 9;(with_reducible refine(Rt.nd0 hx _ _ _).mono ?_);rintro x w2 ⟨b1,rfl,hx2⟩;(replace hx:=hx2);clear hx2))
    clear t0 t1 t2 t3 t4
    have hnm:∀st2 e?,aO (.oq false .nil) (bJ (.ok s1)) st2 e? -> aO .pr (.ok s) st2 (e?.map (Fo.one ⟨23,y.a,y.t.text,0,0⟩)):=by
     intro st2 e? h
     rw[(HE 23).out]
     exact GA HS.out HK.out (VP HS.out HK.out HST.out HY.out g1 (QL HY.out (gF HY.out g1).symm h))
    have HNM:=hid hnm
    obtain⟨st2,Vf⟩:∃st2,bJ (.ok s1)=st2:=⟨_,rfl⟩
    rw[Vf] at hx q3 HNM
    clear Vf hnm
    cases g2:bR fM st2
    ·go_wp2_with (go_at_call 11;(with_reducible refine(Rt.nG hx _ (by decide) g2).mono ?_);rintro x w2 ⟨rfl,hw⟩;(have hw':=hw.symm);subst hw';clear hw)
     have HX:=hid hx
     have HQ:=hid (show mu st2<n by have:=HN.out;omega)
     clear hx
     go_loopw [77] (λ_ wr=>∃ks s' y',Rt W wr rb l s' y' [(b1,Fo.one ⟨23,y.a,y.t.text,0,0⟩ ks)] []/\F6 false st2 ks s'/\ks.len+mu s'<=6010/\mu s'<n) (λ_ wr=>ru wr rb l)
     case atStart=>exact⟨.nil,_,_,HX.out.top,wX HX.out.wN g2,by have:=HX.out.x.mb;simp only[Fo.len];omega,HQ.out⟩
     case round=>
      obtain⟨ks,s',y',hx,hI,hl,hm⟩:=hrel
      clear HX HQ
      have HM:=hid hx.x.rd.ru
      have HI:=hid hI
      have HQ:=hid hm
      have Nl:=hid hl
      have iy:=hid (show ks.len<=6010 by omega)
      clear hI hl hm
      go_upto_region 25 with fail
      obtain⟨u,bk,hbr⟩:=Bt.of (hx.x.ts (b1,Fo.one ⟨23,y.a,y.t.text,0,0⟩ ks) (by simp))
      have hlen:=cZ.len hbr.kids
      obtain⟨uo,uc,rfl⟩:=hbr.slice
      replace hx:=hx.drew
      have HB:=hid (hbr.upd hx.x.lt (It.bL.of_below (bY _ _).drew))
      have HL:=hid hlen
      clear hbr hlen
      refine It.bM (z:=11) (S:=λw'=>w'.cell? ⟨b1,6,none⟩=some (Value.slice uo bk.length uc)) (by kernel_rfl) ?_
      have hS:_:=(aA HB.out.top 6:_=some (Value.slice uo bk.length uc))
      iterate 6 ((refine It.nL 0 ?_ rfl (by kernel_rfl) (λ_ _ _ h=>h) (Or.inl ⟨by rfl,?_⟩) hS ?_);rotate_left;(focus (intro w' hSw;go_simp;(try with_reducible rfl)));(try simp only[Act.put,aW,aV,aU,aT,aS,aR]))
      refine It.aD (i:=6) (by kernel_rfl) rfl rfl (λK hK=>?_)
      refine It.aB (λc h=>by cases h) ?_
      have HK:=hid hK
      clear hK
      go_simp
      refine(Rt.jZ hx (ce (mu s') HQ.out) (aL _)).mono ?_
      rintro e w2 ⟨b3,m3,k3,gT,y3,rfl,hx2,hU,hfx,ho3,hc3,xw⟩
      have hb2:=HB.out.upd hx.x.lt hU
      refine HK.out _ _ (.inr (aA hb2.top 6)) ?_
      clear HK hS
      (try simp only[Act.put,aW,aV,aU,aT,aS,aR])
      obtain⟨u2,w4,hrun,ho2,hg2,hk2⟩:=bS w2 44 (.slice uo bk.length uc) bk.length _ hb2.row hx2.x.upd.size b3 (by have:=HL.out;have:=iy.out;omega)
      obtain⟨o2,c2,rfl⟩:=aI ho2
      refine It.aD (i:=7) (by kernel_rfl) rfl rfl (λK hK=>?_)
      refine It.aB (λc h=>by cases h) ?_
      have HK:=hid hK
      clear hK
      go_simp
      have hb3:=aF hb2.top ((bY _ w2).alloc (aL _) (.cells #[ptr b3] 40))
      refine HK.out _ _ (.inr (aA hb3 6)) ?_
      clear HK
      (try simp only[Act.put,aW,aV,aU,aT,aS,aR])
      refine It.aD (i:=8) (by kernel_rfl) rfl rfl (λK hK=>?_)
      refine It.aB (λc h=>by cases h) ?_
      refine Lib.wp_append_run _ (.tmp 81) (.tmp 84) 44 44 rfl _ _ rfl rfl _ _ hrun ?_
      have t4:=(hg2.block _ (dR.1 hb3).1 (λe=>HB.out.ne _ e.symm rfl)).trans hb3
      have hS:_:=(aA t4 6:_=some (Value.slice uo bk.length uc))
      refine hK _ _ (.inr hS) ?_
      clear hK K hrun
      (try simp only[Act.put,aW,aV,aU,aT,aS,aR])
      refine It.aD (i:=9) (by kernel_rfl) rfl rfl (λK hK=>?_)
      refine It.aB (λc h=>by cases h) ?_
      have HK:=hid hK
      clear hK
      go_simp
      refine HK.out _ _ (.inr hS) ?_
      clear HK
      (try simp only[Act.put,aW,aV,aU,aT,aS,aR])
      refine It.aD (i:=10) (by kernel_rfl) rfl rfl (λK hK=>?_)
      refine It.aB (λc h=>by cases h) ?_
      have HK:=hid hK
      clear hK
      go_simp
      refine HK.out _ _ (.inr hS) ?_
      clear HK
      (try simp only[Act.put,aW,aV,aU,aT,aS,aR])
      refine It.aD (i:=11) (by kernel_rfl) rfl rfl (λK hK=>?_)
      refine It.aB (λc h=>by cases h) ?_
      have HK:=hid hK
      clear hK
      have zz:=aC t4 6
      go_simp
      have hx3:=Rt.append hx2 hU hx.x.upd.size HB.out hfx ho2 hg2 hk2
      refine HK.out _ _ (.inl rfl) ?_
      clear HK
      (try simp only[Act.put,aW,aV,aU,aT,aS,aR])
      replace hx:=hx3
      clear hx3 hx2 hU hfx HB HL hb2 hb3 t4 zz hS ho2 hg2 hk2
      refine It.bQ (by kernel_rfl) ?_ _
      have xX:=hid hx.wN
      have h1:=p9 ks m3 k3
      cases g:bR nE gT
      ·go_wp2_with (first|(go_at_call 11;(with_reducible refine(Rt.nG hx _ (by decide) g).mono ?_);rintro x w2 ⟨rfl,hw⟩;(have hw':=hw.symm);subst hw';clear hw)|(go_at_call 14;(with_reducible refine(Rt.want hx _ (by decide)).mono ?_);rintro x w2 ⟨rfl,y4,hx2,q4⟩;(replace hx:=hx2);clear hx2))
       go_ret
       exact hx.res (aH ..) (HNM.out _ _ (Cz HI.out ho3 (by rw[h1];omega) xX.out g)) (dD (by decide) (by decide))
      ·cases gT with
       | error e=>cases g
       | ok s3=>
        go_wp2_with (first|(go_at_call 11;(with_reducible refine(Rt.lX hx _ (by decide) g).mono ?_);rintro x w2 ⟨rfl,hw⟩;(have hw':=hw.symm);subst hw';clear hw)|(go_at_call 12;(with_reducible refine(Rt.stepT hx nE (by decide) g).mono ?_);rintro x w2 ⟨rfl,y4,hx2,q4⟩;(replace hx:=hx2);clear hx2))
        go_roundw
        case rel=>exact⟨_,_,_,hx,zJ HI.out ho3 (by rw[h1];omega) (xX.out s3 rfl) g,by have:=Nl.out;omega,by have:=HQ.out;omega⟩
        case measure=>
         rw[hx.x.rd.ru,HM.out]
         omega
    ·cases st2 with
     | error e=>cases g2
     | ok s2=>
      have HY2:=hid hx.ok
      go_wp2_with (first|(go_at_call 11;(with_reducible refine(Rt.lX hx _ (by decide) g2).mono ?_);rintro x w2 ⟨rfl,hw⟩;(have hw':=hw.symm);subst hw';clear hw)|(go_at_call 14;(with_reducible refine(Rt.want hx _ (by decide)).mono ?_);rintro x w2 ⟨rfl,y4,hx2,q4⟩;(replace hx:=hx2);clear hx2))
      go_ret
      exact hx.res (aH ..) (HNM.out _ _ (G5 HY2.out g2)) (dD (by decide) (by decide))
theorem OP(n:Nat)(ce:∀m,m<n->nO 71 .ex m):nO 156 .pr n:=by
 intro W rb l st y hx hn
 cases st with
 | error f=>exact CZ hx
 | ok s=>
  by_cases h4:y.t.kind=4
  ·exact LJ hx h4
  ·by_cases h5:y.t.kind=5
   ·exact LK hx h5
   ·by_cases h6:y.t.kind=6
    ·exact LD hx h6
    ·by_cases h1:y.t.kind=1
     ·exact I4 ce hn hx h1
     ·have hk:¬ (y.t.kind=1\/y.t.kind=4\/y.t.kind=5\/y.t.kind=6):=by omega
      cases g1:bR kF (.ok s)
      ·cases g2:bR jG (.ok s)
       ·cases g3:bR oG (.ok s)
        ·cases g4:bR gH (.ok s)
         ·exact IZ ce hn hx hk g1 g2 g3 g4
         ·exact LG ce hn hx hk g1 g2 g3 g4
        ·exact LH ce hn hx hk g1 g2 g3
       ·exact EU ce hn hx hk g1 g2
      ·exact IY ce hn hx hk g1
theorem WY{st st2:Se}{y:Yd}{b? : Option Fo}(hs:∀s,st=.ok s->look s=.ok y)(h:aO (.zU .nil) (Tr.aN sG st) st2 b?):aO .bl st st2 (b?.map (Fo.one ⟨5,y.a,⟨#[]⟩,0,0⟩)):=by
 cases st with
 | error e=>exact h.errs e rfl
 | ok s=>exact WZ (hs s rfl) rfl h (λb e=>by rw[e];rfl)
theorem wR{st:Se}{y:Yd}(w:ByteArray)(hs:∀s,st=.ok s->look s=.ok y){x:Cs}(h:aN w st=.ok x):mu (aN w st)<mu st:=by
 cases st with
 | error e=>cases h
 | ok s=>exact Ec w (hs s rfl)
theorem D5(n:Nat)(cs:∀m,m<n->nO 43 .st m):nO 26 .bl n:=by
 intro W rb l st y hx0 hn
 have hx:=Rt.start hx0
 have HY:=hid hx.wN
 have HN:=hid hn
 clear hx0 hn
 go_enter func26,ntmps26
 go_wp2_with (first|(go_at_call 14;(with_reducible refine(Rt.want hx _ (by decide)).mono ?_);rintro x w2 ⟨rfl,y1,hx2,q1⟩;(replace hx:=hx2);clear hx2)|(go_at_call 9;(with_reducible refine(Rt.nd0 hx _ _ _).mono ?_);rintro x w2 ⟨b1,rfl,hx2⟩;(replace hx:=hx2);clear hx2))
 have HB:=hid (λst2 b?=>WY (st2:=st2) (b?:=b?) HY.out)
 have HW:=hid (λx=>wR (x:=x) sG HY.out)
 obtain⟨st1,Af⟩:∃st1,aN sG st=st1:=⟨_,rfl⟩
 rw[Af] at hx q1 HB HW
 clear Af
 have HX:=hid hx
 clear hx
 go_loopw [7] (λ_ wr=>∃ks s' y',Rt W wr rb l s' y' [(b1,Fo.one ⟨5,y.a,⟨#[]⟩,0,0⟩ ks)] []/\Inv .zU (.zU .nil) st1 ks s'/\ks.len+mu s'<=6010/\(∀x,s'=.ok x->mu s'<n)) (λ_ wr=>ru wr rb l)
 case atStart=>exact⟨.nil,_,_,HX.out.top,λst2 o g=>g,by have:=HX.out.x.mb;simp only[Fo.len];omega,λx e=>eU (HW.out x e) HN.out⟩
 case round=>
  obtain⟨ks,s',y',hx,hI,hl,hm⟩:=hrel
  clear HX HW
  have HM:=hid hx.x.rd.ru
  have HI:=hid hI
  have Nl:=hid hl
  have iy:=hid (show ks.len<=6010 by omega)
  have xX:=hid hx.wN
  cases s' with
  | error e=>
   clear hI hl hm
   go_wp2_with (first|(go_at_call 10;(with_reducible refine(ji hx.x).mono ?_);rintro x w2 ⟨rfl,hw⟩;(have hw':=hw.symm);subst hw';clear hw)|(go_at_call 14;(with_reducible refine(Rt.want hx _ (by decide)).mono ?_);rintro x w2 ⟨rfl,y4,hx2,q4⟩;(replace hx:=hx2);clear hx2))
   go_ret
   exact hx.res (aH ..) (HB.out _ _ (wY HI.out xX.out (λs e=>by cases e))) (dD (by decide) (by decide))
  | ok s1=>
   have HQ:=hid (hm s1 rfl)
   clear hI hl hm
   cases g:bR nC (.ok s1)
   ·go_upto_region 3 with((with_reducible (apply Calls.mono;first|exact dH hx.x|exact Rt.nG hx _ (by decide) g));rintro x w2 ⟨rfl,hw⟩;(have hw':=hw.symm);subst hw';clear hw)
    obtain⟨u,bk,hbr⟩:=Bt.of (hx.x.ts (b1,Fo.one ⟨5,y.a,⟨#[]⟩,0,0⟩ ks) (by simp))
    have hlen:=cZ.len hbr.kids
    obtain⟨uo,uc,rfl⟩:=hbr.slice
    replace hx:=hx.drew
    have HB:=hid (hbr.upd hx.x.lt (It.bL.of_below (bY _ _).drew))
    have HL:=hid hlen
    clear hbr hlen
    refine It.bM (z:=11) (S:=λw'=>w'.cell? ⟨b1,6,none⟩=some (Value.slice uo bk.length uc)) (by kernel_rfl) ?_
    have hS:_:=(aA HB.out.top 6:_=some (Value.slice uo bk.length uc))
    iterate 6 ((refine It.nL 0 ?_ rfl (by kernel_rfl) (λ_ _ _ h=>h) (Or.inl ⟨by rfl,?_⟩) hS ?_);rotate_left;(focus (intro w' hSw;go_simp;(try with_reducible rfl)));(try simp only[Act.put,aW,aV,aU,aT,aS,aR]))
    refine It.aD (i:=6) (by kernel_rfl) rfl rfl (λK hK=>?_)
    refine It.aB (λc h=>by cases h) ?_
    have HK:=hid hK
    clear hK
    go_simp
    refine(Rt.jZ hx (cs (mu (.ok s1)) HQ.out) (aL _)).mono ?_
    rintro e w2 ⟨b3,m3,k3,gT,y3,rfl,hx2,hU,hfx,ho3,hc3,xw⟩
    have hb2:=HB.out.upd hx.x.lt hU
    refine HK.out _ _ (.inr (aA hb2.top 6)) ?_
    clear HK hS
    (try simp only[Act.put,aW,aV,aU,aT,aS,aR])
    obtain⟨u2,w4,hrun,ho2,hg2,hk2⟩:=bS w2 44 (.slice uo bk.length uc) bk.length _ hb2.row hx2.x.upd.size b3 (by have:=HL.out;have:=iy.out;omega)
    obtain⟨o2,c2,rfl⟩:=aI ho2
    refine It.aD (i:=7) (by kernel_rfl) rfl rfl (λK hK=>?_)
    refine It.aB (λc h=>by cases h) ?_
    have HK:=hid hK
    clear hK
    go_simp
    have hb3:=aF hb2.top ((bY _ w2).alloc (aL _) (.cells #[ptr b3] 40))
    refine HK.out _ _ (.inr (aA hb3 6)) ?_
    clear HK
    (try simp only[Act.put,aW,aV,aU,aT,aS,aR])
    refine It.aD (i:=8) (by kernel_rfl) rfl rfl (λK hK=>?_)
    refine It.aB (λc h=>by cases h) ?_
    refine Lib.wp_append_run _ (.tmp 19) (.tmp 22) 44 44 rfl _ _ rfl rfl _ _ hrun ?_
    have t4:=(hg2.block _ (dR.1 hb3).1 (λe=>HB.out.ne _ e.symm rfl)).trans hb3
    have hS:_:=(aA t4 6:_=some (Value.slice uo bk.length uc))
    refine hK _ _ (.inr hS) ?_
    clear hK K hrun
    (try simp only[Act.put,aW,aV,aU,aT,aS,aR])
    refine It.aD (i:=9) (by kernel_rfl) rfl rfl (λK hK=>?_)
    refine It.aB (λc h=>by cases h) ?_
    have HK:=hid hK
    clear hK
    go_simp
    refine HK.out _ _ (.inr hS) ?_
    clear HK
    (try simp only[Act.put,aW,aV,aU,aT,aS,aR])
    refine It.aD (i:=10) (by kernel_rfl) rfl rfl (λK hK=>?_)
    refine It.aB (λc h=>by cases h) ?_
    have HK:=hid hK
    clear hK
    go_simp
    refine HK.out _ _ (.inr hS) ?_
    clear HK
    (try simp only[Act.put,aW,aV,aU,aT,aS,aR])
    refine It.aD (i:=11) (by kernel_rfl) rfl rfl (λK hK=>?_)
    refine It.aB (λc h=>by cases h) ?_
    have HK:=hid hK
    clear hK
    have zz:=aC t4 6
    go_simp
    have hx3:=Rt.append hx2 hU hx.x.upd.size HB.out hfx ho2 hg2 hk2
    refine HK.out _ _ (.inl rfl) ?_
    clear HK
    (try simp only[Act.put,aW,aV,aU,aT,aS,aR])
    replace hx:=hx3
    clear hx3 hx2 hU hfx HB HL hb2 hb3 t4 zz hS ho2 hg2 hk2
    refine It.bQ (by kernel_rfl) ?_ _
    have h1:=p9 ks m3 k3
    go_wp2_with fail
    go_roundw
    case rel=>exact⟨_,_,_,hx,JH HI.out (xX.out s1 rfl) g ho3,by have:=Nl.out;have:=ho3.GY (by decide) (xX.out s1 rfl);omega,λx e=>by have:=HQ.out;omega⟩
    case measure=>
     rw[hx.x.rd.ru,HM.out]
     exact ho3.GY (by decide) (xX.out s1 rfl)
   ·go_wp2_with (first|((with_reducible (apply Calls.mono;first|exact dH hx.x|exact Rt.lX hx _ (by decide) g));rintro x w2 ⟨rfl,hw⟩;(have hw':=hw.symm);subst hw';clear hw)|(go_at_call 14;(with_reducible refine(Rt.want hx _ (by decide)).mono ?_);rintro x w2 ⟨rfl,y4,hx2,q4⟩;(replace hx:=hx2);clear hx2))
    go_ret
    exact hx.res (aH ..) (HB.out _ _ (wY HI.out xX.out (λs e=>by cases e;exact g))) (dD (by decide) (by decide))
end Go.Proofs.YtgchnkgolclmgaaGreatDoor.W.Tr

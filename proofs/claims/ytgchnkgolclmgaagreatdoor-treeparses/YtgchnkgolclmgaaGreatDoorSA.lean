import Derived.Test.YtgchnkgolclmgaaGreatDoorRP
import Derived.Test.YtgchnkgolclmgaaGreatDoorJM
import Derived.Test.YtgchnkgolclmgaaGreatDoorRC
open List renaming cons → ay, mem_cons → eU
open Array renaming mk → bY, getElem?_eq_some_iff → dQ
open Nat renaming le_refl → aH, zero_le → aY, le_trans → dI
open Go.World renaming alloc_heap_new → bO
open Go.RowKit.Below renaming refl → aL
open Go.Proofs.Tryz
set_option maxRecDepth 1000000
set_option maxHeartbeats 8000000
namespace Go.Proofs.YtgchnkgolclmgaaGreatDoor.W.Tr
open Go.ChangeShapes Go.WideShapes Go.RowKit Go.Shelf
set_option linter.unusedVariables false
set_option linter.unusedSimpArgs false
def BJ(t:Tk):Prop:=(t.kind≠4->t.int=0)/\(t.kind≠5->t.bits=0)/\(t.kind=4\/t.kind=5->t.text=⟨#[]⟩)/\(t.kind=2->¬ (t.text=gH\/t.text=oz\/t.text=sG\/t.text=pF))/\(t.kind=3->¬ (t.text=kF\/t.text=jG\/t.text=oG))
theorem qZ:BJ gX:=⟨λ_=>rfl,λ_=>rfl,λ_=>rfl,λh=>absurd h (show ¬ (0:Int)=2 by decide),λh=>absurd h (show ¬ (0:Int)=3 by decide)⟩
theorem H8:∀l ∈ words,¬ (bytesOf l=gH\/bytesOf l=oz\/bytesOf l=sG\/bytesOf l=pF):=by decide
theorem He:∀m ∈ marks,¬ (bytesOf m=kF\/bytesOf m=jG\/bytesOf m=oG):=by decide
theorem zh{a b:Pc}(ha:BJ a.t)(hb:BJ b.t):BJ (jK a b).t:=by
 unfold jK
 split
 ·exact hb
 ·exact ha
theorem yL:∀ (f:Nat) (r:List UInt8) (k:Nat) (acc:List UInt8),BJ (bq f r k acc).t
 | 0,r,k,acc=>by unfold bq;exact qZ
 | f+1,[],k,acc=>by rw[jP];exact qZ
 | f+1,c::q,k,acc=>by
  by_cases c1:c=34
  ·rw[iR (f+1) k c q acc (by omega) c1]
   exact⟨λ_=>rfl,λ_=>rfl,λh=>absurd h (show ¬ ((6:Int)=4\/(6:Int)=5) by decide),λh=>absurd h (show ¬ (6:Int)=2 by decide),λh=>absurd h (show ¬ (6:Int)=3 by decide)⟩
  ·by_cases c2:(bZ (c::q)).2=0
   ·rw[jQ (f+1) k c q acc (by omega) c1 c2]
    exact qZ
   ·rw[kM f k c q acc c1 c2]
    exact yL f _ _ _
theorem KQ(r:List UInt8):BJ (iK r).t:=by
 have zn:BJ lJ.t:=qZ
 have z:∀n c,BJ (gG n c).t:=λ_ _=>qZ
 unfold iK
 refine zh ?_ (zh ?_ (zh ?_ (zh ?_ ?_)))
 ·unfold nameP
  split
  ·exact zn
  ·split
   ·exact z _ _
   ·show BJ (kD _)
    unfold kD
    split
    ·exact⟨λ_=>rfl,λh=>absurd rfl h,λ_=>rfl,λh=>absurd h (show ¬ (5:Int)=2 by decide),λh=>absurd h (show ¬ (5:Int)=3 by decide)⟩
    ·split
     ·exact⟨λ_=>rfl,λh=>absurd rfl h,λ_=>rfl,λh=>absurd h (show ¬ (5:Int)=2 by decide),λh=>absurd h (show ¬ (5:Int)=3 by decide)⟩
     ·split
      ·rename_i hw
       exact⟨λ_=>rfl,λ_=>rfl,λh=>absurd h (show ¬ ((2:Int)=4\/(2:Int)=5) by decide),λ_=>H8 _ hw,λh=>absurd h (show ¬ (2:Int)=3 by decide)⟩
      ·exact⟨λ_=>rfl,λ_=>rfl,λh=>absurd h (show ¬ ((1:Int)=4\/(1:Int)=5) by decide),λh=>absurd h (show ¬ (1:Int)=2 by decide),λh=>absurd h (show ¬ (1:Int)=3 by decide)⟩
 ·unfold fC
  split
  ·split
   ·exact⟨λ_=>rfl,λh=>absurd rfl h,λ_=>rfl,λh=>absurd h (show ¬ (5:Int)=2 by decide),λh=>absurd h (show ¬ (5:Int)=3 by decide)⟩
   ·exact z _ _
  ·exact zn
 ·unfold fJ
  split
  ·exact zn
  ·split
   ·exact⟨λh=>absurd rfl h,λ_=>rfl,λ_=>rfl,λh=>absurd h (show ¬ (4:Int)=2 by decide),λh=>absurd h (show ¬ (4:Int)=3 by decide)⟩
   ·exact z _ _
 ·unfold dh
  split
  ·rcases mo (bq r.length (r.drop 1) 1 []) with g|⟨_,g⟩
   ·rw[g];exact yL _ _ _ _
   ·rw[g];exact z _ _
  ·exact zn
 ·unfold kP
  split
  ·rename_i m hm
   exact⟨λ_=>rfl,λ_=>rfl,λh=>absurd h (show ¬ ((3:Int)=4\/(3:Int)=5) by decide),λh=>absurd h (show ¬ (3:Int)=2 by decide),λ_=>He m (List.mem_of_find?_eq_some hm)⟩
  ·exact zn
theorem za{t t':Tk}{x x':Int}(h:tv t x=tv t' x'):t=t':=by
 obtain⟨a,b,c,d⟩:=t
 obtain⟨a',b',c',d'⟩:=t'
 simp[tv] at h
 simp[h]
theorem KR(r:List UInt8)(a:Nat){t:Tk}{x to' c f:Int}(h:nextR r a=.tuple #[tv t x,.int .i64 to',.agg #[.int .i64 c,.int .i64 f]]):BJ t:=by
 unfold nextR at h
 split at h
 ·simp only[Value.tuple.injEq,bY.injEq,ay.injEq] at h
  rw[<- za h.1]
  exact⟨λ_=>rfl,λ_=>rfl,λh=>absurd h (show ¬ ((7:Int)=4\/(7:Int)=5) by decide),λh=>absurd h (show ¬ (7:Int)=2 by decide),λh=>absurd h (show ¬ (7:Int)=3 by decide)⟩
 ·unfold yg at h
  split at h
  ·simp only[Value.tuple.injEq,bY.injEq,ay.injEq] at h
   rw[<- za h.1]
   exact qZ
  ·split at h
   ·simp only[Value.tuple.injEq,bY.injEq,ay.injEq] at h
    rw[<- za h.1]
    exact qZ
   ·simp only[Value.tuple.injEq,bY.injEq,ay.injEq] at h
    rw[<- za h.1]
    exact KQ r
def Gn(l:ByteArray)(m:Nat)(y:Yd)(rest:List Yd)(to':Int):Prop:=T (l.data.toList.drop m) m=y::rest/\BJ y.t/\((y.c≠0/\rest=[])\/(y.c=0/\y.t.kind=7/\rest=[])\/(y.c=0/\y.t.kind≠7/\∃k:Nat,to'=(k:Int)/\m<k/\k<=l.size/\rest=T (l.data.toList.drop k) k))
theorem yx(l:ByteArray)(m k:Nat)(hmk:m<=k)(hk:k<=l.size)(hT:T (l.data.toList.drop m) m=T (l.data.toList.drop k) k)(h:pV (l.data.toList.drop k)) :
  ∃y rest to',nextR (l.data.toList.drop k) k=.tuple #[.agg #[.int .i64 y.t.kind,.int .i64 y.a,.string y.t.text,.int .i64 y.t.int,.int .u64 y.t.bits],.int .i64 to',.agg #[.int .i64 y.c,.int .i64 y.f]]/\Gn l m y rest to':=by
 cases hL:T (l.data.toList.drop k) k with
 | nil=>exact absurd hL (XA _ _)
 | cons y rest=>
  have hk':k<=l.data.toList.length:=by rw[size_list];exact hk
  obtain⟨to',h1,h2⟩:=JU l.data.toList k hk' h y rest hL
  refine⟨y,rest,to',h1,hT.trans hL,KR _ _ h1,?_⟩
  rcases h2 with h2|h2|⟨h2,h3,m',h4,h5,h6⟩
  ·exact .inl h2
  ·exact .inr (.inl h2)
  ·refine .inr (.inr ⟨h2,h3,m',h4,?_,by rw[size_list] at h5;exact h5,h6⟩)
   obtain⟨t,x,y',c,f,q1,q2⟩:=Ik l.data.toList k hk' h
   rw[h1] at q1
   simp only[Value.tuple.injEq,bY.injEq,ay.injEq,Value.int.injEq,Value.agg.injEq,tv] at q1
   obtain⟨⟨q3,_⟩,⟨_,q4⟩,⟨⟨_,q5⟩,_⟩,_⟩:=q1
   rcases q2 with⟨c0,_⟩|⟨_,_,k7,_⟩|⟨_,_,_,j,j1,j2,_,_⟩
   ·omega
   ·simp only[q3.2] at h3
    omega
   ·omega
def mu:Se->Nat
 | .error _=>0
 | .ok s=>s.r.length
def RdE(l:ByteArray)(st:Se)(y:Yd)(n o c f:Int):Prop:=match st with
 | .error e=>c=e.1/\f=e.2/\c≠0
 | .ok s=>c=0/\f=0/\look s=.ok y/\BJ y.t/\s.o=o/\o<=64/\∃rest,s.r=y::rest/\(y.t.kind=7/\rest=[]\/y.t.kind≠7/\∃m:Nat,n=(m:Int)/\m<=l.size/\-(m:Int)<=o/\rest=T (l.data.toList.drop m) m)
abbrev yS(l:ByteArray)(y:Yd)(n o c f:Int):Array Value:=#[.string l,.int .i64 y.t.kind,.int .i64 y.a,.string y.t.text,.int .i64 y.t.int,.int .u64 y.t.bits,.int .i64 n,.int .i64 o,.int .i64 c,.int .i64 f]
def Rd(W:World)(rb:Nat)(l:ByteArray)(st:Se)(y:Yd):Prop:=∃n o c f,W.heap[rb]? = some (.cells (yS l y n o c f) 38 (0,0))/\RdE l st y n o c f
theorem Rd.on{W W':World}{rb:Nat}{l:ByteArray}{st:Se}{y:Yd}(h:Rd W rb l st y)(hk:W'.heap[rb]? = W.heap[rb]?):Rd W' rb l st y:=by
 obtain⟨n,o,c,f,h1,h2⟩:=h
 exact⟨n,o,c,f,hk.trans h1,h2⟩
theorem Rd.lt{W:World}{rb:Nat}{l:ByteArray}{st:Se}{y:Yd}(h:Rd W rb l st y):rb<W.heap.size:=by
 obtain⟨n,o,c,f,h1,h2⟩:=h
 exact(dQ.1 h1).1
def ru(w:World)(rb:Nat)(l:ByteArray):Nat:=match w.cell? ⟨rb,8,none⟩,w.cell? ⟨rb,1,none⟩,w.cell? ⟨rb,6,none⟩ with
 | some (.int _ c),some (.int _ k),some (.int _ n)=>if c≠0 then 0 else if k=7 then 1 else (T (l.data.toList.drop n.toNat) n.toNat).length+1
 | _,_,_=>0
theorem Rd.ru{W:World}{rb:Nat}{l:ByteArray}{st:Se}{y:Yd}(h:Rd W rb l st y):Tr.ru W rb l=mu st:=by
 obtain⟨n,o,c,f,h1,h2⟩:=h
 have g:=aA h1
 have g8:W.cell? ⟨rb,8,none⟩=some (.int .i64 c):=g 8
 have g1:W.cell? ⟨rb,1,none⟩=some (.int .i64 y.t.kind):=g 1
 have g6:W.cell? ⟨rb,6,none⟩=some (.int .i64 n):=g 6
 unfold Tr.ru
 rw[g8,g1,g6]
 cases st with
 | error e=>
  show (if c≠0 then _ else _)=_
  rw[if_pos h2.2.2]
  rfl
 | ok s=>
  obtain⟨hc,_,_,_,_,_,rest,hr,hk⟩:=h2
  show (if c≠0 then _ else _)=_
  rw[if_neg (by simp[hc])]
  show _=s.r.length
  rw[hr]
  rcases hk with⟨hk,rfl⟩|⟨hk,m,rfl,_,_,rfl⟩
  ·rw[if_pos hk]
   rfl
  ·rw[if_neg hk]
   simp
def cZ(W:World):(Nat->Prop)->List Nat->Fo->Prop
 | S,bs,.nil=>bs=[]
 | S,bs,.cons n ks r=>∃b bs' v bk,bs=b::bs'/\S b/\W.heap[b]? = some (.cells (oI n v) 46 (0,0))/\W.ownsRow 0 40 1 v bk.length (bk.map ptr)/\(∀k,v.ownBlock=some k->S k/\k≠b)/\cZ W (λk=>S k/\k≠b/\v.ownBlock≠some k) bk ks/\cZ W S bs' r
theorem cZ.mono{W:World}:∀ {f:Fo} {S S':Nat->Prop} {bs:List Nat},(∀k,S k->S' k)->cZ W S bs f->cZ W S' bs f
 | .nil,S,S',bs,hs,h=>h
 | .cons n ks r,S,S',bs,hs,h=>by
  obtain⟨b,bs',v,bk,h1,h2,h3,h4,h5,h6,h7⟩:=h
  exact⟨b,bs',v,bk,h1,hs b h2,h3,h4,λk e=>⟨hs k (h5 k e).1,(h5 k e).2⟩,cZ.mono (λk e=>⟨hs k e.1,e.2⟩) h6,cZ.mono hs h7⟩
theorem cZ.on{W W':World}:∀ {f:Fo} {S:Nat->Prop} {bs:List Nat},(∀k,S k->k<W.heap.size->W'.heap[k]? = W.heap[k]?)->cZ W S bs f->cZ W' S bs f
 | .nil,S,bs,hs,h=>h
 | .cons n ks r,S,bs,hs,h=>by
  obtain⟨b,bs',v,bk,h1,h2,h3,h4,h5,h6,h7⟩:=h
  exact⟨b,bs',v,bk,h1,h2,(hs b h2 (dQ.1 h3).1).trans h3,bD h4 (λk e=>hs k (h5 k e).1 (h4.lt k e).2),h5,cZ.on (λk e=>hs k e.1) h6,cZ.on hs h7⟩
theorem cZ.lt{W:World}:∀ {f:Fo} {S:Nat->Prop} {bs:List Nat},cZ W S bs f->cZ W (λk=>S k/\k<W.heap.size) bs f
 | .nil,S,bs,h=>h
 | .cons n ks r,S,bs,h=>by
  obtain⟨b,bs',v,bk,h1,h2,h3,h4,h5,h6,h7⟩:=h
  exact⟨b,bs',v,bk,h1,⟨h2,(dQ.1 h3).1⟩,h3,h4,λk e=>⟨⟨(h5 k e).1,(h4.lt k e).2⟩,(h5 k e).2⟩,cZ.mono (λk e=>⟨⟨e.1.1,e.2⟩,e.1.2⟩) (cZ.lt h6),cZ.lt h7⟩
theorem cZ.app{W:World}:∀ {f g:Fo} {S:Nat->Prop} {bs cs:List Nat},cZ W S bs f->cZ W S cs g->cZ W S (bs++cs) (f.app g)
 | .nil,g,S,bs,cs,h,hg=>by
  have:bs=[]:=h
  subst this
  exact hg
 | .cons n ks r,g,S,bs,cs,h,hg=>by
  obtain⟨b,bs',v,bk,h1,h2,h3,h4,h5,h6,h7⟩:=h
  exact⟨b,bs'++cs,v,bk,by rw[h1];rfl,h2,h3,h4,h5,h6,cZ.app h7 hg⟩
theorem cZ.len{W:World}:∀ {f:Fo} {S:Nat->Prop} {bs:List Nat},cZ W S bs f->bs.length=f.len
 | .nil,S,bs,h=>by
  have:bs=[]:=h
  subst this
  rfl
 | .cons n ks r,S,bs,h=>by
  obtain⟨b,bs',v,bk,h1,h2,h3,h4,h5,h6,h7⟩:=h
  rw[h1]
  show bs'.length+1=r.len+1
  rw[cZ.len h7]
theorem cZ.below{W W':World}{S:Nat->Prop}{bs:List Nat}{f:Fo}(h:cZ W S bs f)(hB:Below W.heap.size W W'):cZ W' S bs f:=h.on (λk _ hk=>hB.block k hk)
theorem cZ.upd{W W':World}{cb m:Nat}{bs:List Nat}{f:Fo}(h:cZ W (λk=>m<=k) bs f)(hc:cb<m)(hU:It.bL (λk=>k=cb) W W'):cZ W' (λk=>m<=k) bs f:=h.on (λk e hk=>hU.block k hk (by omega))
theorem Kn{W:World}{g:Nat}{bs:List Nat}(h:W.heap[g]? = some (.cells (bs.map ptr).toArray 40 (0,0)))(hl:bs.length<=maxLen):W.ownsRow 0 40 1 (.slice (some ⟨g,0,none⟩) bs.length bs.length) bs.length (bs.map ptr):=
 ⟨by simp,.inr ⟨g,bs.length,_,rfl,aY _,h,aH _,hl,by simp,by rw[Nat.mul_one];exact List.take_of_length_le (by simp)⟩⟩
theorem cZ.mk{W:World}{m b:Nat}{n:Nd}{v:Value}{bk:List Nat}{ks:Fo}(hm:m<=b)(hb:W.heap[b]? = some (.cells (oI n v) 46 (0,0)))(hr:W.ownsRow 0 40 1 v bk.length (bk.map ptr))(hv:∀k,v.ownBlock=some k->m<=k/\k≠b)(hk:cZ W (λk=>m<=k/\k≠b/\v.ownBlock≠some k) bk ks):cZ W (λk=>m<=k) [b] (Fo.one n ks):=
 ⟨b,[],v,bk,rfl,hm,hb,hr,hv,hk,rfl⟩
section
variable {W0 W w':World} {cb b m:Nat} {Ys:List Yd} {v u:Value} {fo ks fx:Fo} {nd:Nd} {bk:List Nat}
structure Bt (m:Nat) (W:World) (b:Nat) (n:Nd) (u:Value) (bk:List Nat) (ks:Fo):Prop where
 lo:m<=b
 top:W.heap[b]? = some (.cells (oI n u) 46 (0,0))
 row:W.ownsRow m 40 1 u bk.length (bk.map ptr)
 ne:∀k,u.ownBlock=some k->k≠b
 kids:cZ W (λk=>m<=k/\k≠b/\u.ownBlock≠some k) bk ks
theorem Bt.of(h:cZ W (λk=>m<=k) [b] (Fo.one nd ks)):∃u bk,Bt m W b nd u bk ks:=by
 obtain⟨b',bs',v,bk,h1,h2,h3,h4,h5,h6,h7⟩:=h
 simp only[ay.injEq] at h1
 obtain⟨rfl,rfl⟩:=h1
 exact⟨v,bk,h2,h3,iG h4 (λk e=>(h5 k e).1),λk e=>(h5 k e).2,h6⟩
theorem Bt.shut(h:Bt m W b nd u bk ks):cZ W (λk=>m<=k) [b] (Fo.one nd ks):=
 cZ.mk h.lo h.top (iG h.row (λ_ _=>aY _)) (λk e=>⟨(h.row.lt k e).1,h.ne k e⟩) h.kids
theorem Bt.slice(h:Bt m W b nd u bk ks):∃o c,u=.slice o bk.length c:=aI h.row
theorem Bt.lt(h:Bt m W b nd u bk ks):b<W.heap.size:=(dQ.1 h.top).1
theorem Bt.upd(h:Bt m W b nd u bk ks)(hc:cb<m)(hU:It.bL (λk=>k=cb) W w'):Bt m w' b nd u bk ks:=
 ⟨h.lo,(hU.block b h.lt (by have:=h.lo;omega)).trans h.top,bD h.row (λk e=>hU.block k (h.row.lt k e).2 (by have:=(h.row.lt k e).1;omega)),h.ne,h.kids.on (λk e hk=>hU.block k hk (by omega))⟩
theorem Uw:prog.underlying 44=some (.slice 40):=by kernel_rfl
theorem Sm:(prog.info? 40).map (λi=>(i.zero,i.size,i.bytes))=some (some (.pointer none),1,8):=by kernel_rfl
theorem bS(W:World)(ty:TypeId)(v:Value)(n:Nat)(xs:List Value){B0:Nat}(hown:W.ownsRow B0 40 1 v n xs)(hB:B0<=W.heap.size)(x:Nat)(hn:n<=2000000):∃v' w',(Builtin.append_ #[44,44] ty #[v,.slice (some ⟨W.heap.size,0,none⟩) 1 1]).run prog (W.alloc (.cells #[ptr x] 40))=.ok v' w'/\w'.ownsRow B0 40 1 v' (n+1) (xs++[ptr x])/\(W.alloc (.cells #[ptr x] 40)).grownBy w' v.ownBlock/\(v'.ownBlock=v.ownBlock\/v'.ownBlock=some (W.alloc (.cells #[ptr x] 40)).heap.size):=by
 obtain⟨i0,hi,hz0,hz1,hz2⟩:∃i,prog.info? 40=some i/\i.zero=some (.pointer none)/\i.size=1/\i.bytes=8:=by
  have h:=Sm
  cases hq:prog.info? 40 with
  | none=>rw[hq] at h;cases h
  | some i=>
   rw[hq] at h
   simp at h
   exact⟨i,rfl,h.1,h.2.1,h.2.2⟩
 have e0:=World.cell?_alloc_new W #[ptr x] 40
 have ho:=hown.alloc (.cells #[ptr x] 40)
 obtain⟨v',w',h1,h2,h3,_,h5⟩:=run_append_own_at (P:=prog) (W.alloc (.cells #[ptr x] 40)) B0 44 ty 40 i0 _ 1 8 Uw hi hz0 hz1 hz2 rfl (by omega) v n xs ho ⟨W.heap.size,0,none⟩ 1 1 [ptr x] (by simp) (by
  intro j u hj
  have e1:((⟨W.heap.size,0,none⟩:Addr).add j)=⟨W.heap.size,j,none⟩:=by simp[Addr.add];intro e;exact e.symm
  rw[e1,e0 j]
  simpa using hj) (by
  intro u hu
  simp at hu
  rw[hu]
  rfl) (by unfold maxLen;omega) (by omega) (by simp;omega)
 exact⟨v',w',h1,h2,h3,h5⟩
end
structure Rx (W0 W:World) (rb:Nat) (l:ByteArray) (st:Se) (y:Yd) (L:List (Nat × Fo)):Prop where
 rd:Rd W rb l st y
 sz:l.size<=6000
 mb:mu st<=6001
 upd:It.bL (λk=>k=rb) W0 W
 lt:rb<W0.heap.size
 ts:∀p ∈ L,cZ W (λk=>W0.heap.size<=k) [p.1] p.2
section
variable {W0 W w':World} {rb:Nat} {l:ByteArray} {st st':Se} {y y' z:Yd} {s s':Cs} {L:List (Nat × Fo)} {p:Nt} {o:Option Fo}
theorem Rx.start(h:Rd W rb l st y)(hs:l.size<=6000)(hm:mu st<=6001):Rx W W rb l st y []:=⟨h,hs,hm,It.bL.refl _ _,h.lt,by simp⟩
theorem Rx.Ed(h:Rx W0 W rb l st y L):rb<W.heap.size:=Nat.lt_of_lt_of_le h.lt h.upd.size
theorem Rx.next(h:Rx W0 W rb l st y L)(hr:Rd w' rb l st' y')(hm:mu st'<=mu st)(hu:It.bL (λk=>k=rb) W w'):Rx W0 w' rb l st' y' L:=⟨hr,h.sz,dI hm h.mb,h.upd.trans' hu,h.lt,λp hp=>(h.ts p hp).upd h.lt hu⟩
theorem Rx.below(h:Rx W0 W rb l st y L)(hB:Below W.heap.size W w'):Rx W0 w' rb l st y L:=h.next (h.rd.on (hB.block _ h.Ed)) (aH _) (It.bL.of_below hB)
theorem Rx.alloc(h:Rx W0 W rb l st y L)(o:Obj):Rx W0 (W.alloc o) rb l st y L:=h.below ((aL _ W).alloc (aH _) _)
theorem Rx.drew(h:Rx W0 W rb l st y L):Rx W0 W.drew rb l st y L:=h.below (aL _ W).drew
theorem Rx.sub{L':List (Nat × Fo)}(h:Rx W0 W rb l st y L)(hL:∀p ∈ L',p ∈ L):Rx W0 W rb l st y L':=⟨h.rd,h.sz,h.mb,h.upd,h.lt,λp hp=>h.ts p (hL p hp)⟩
theorem Rx.gP(h:Rx W0 W rb l st y L):Rx W W rb l st y []:=Rx.start h.rd h.sz h.mb
theorem Rd.ok{W:World}(h:Rd W rb l (.ok s) y):look s=.ok y/\BJ y.t:=by
 obtain⟨n,o,c,f,h1,h2⟩:=h
 exact⟨h2.2.2.1,h2.2.2.2.1⟩
theorem Rx.ok(h:Rx W0 W rb l (.ok s) y L):look s=.ok y:=h.rd.ok.1
theorem Rx.clean(h:Rx W0 W rb l (.ok s) y L):BJ y.t:=h.rd.ok.2
theorem Rx.good(h:Rx W0 W rb l st y L):mG st:=by
 cases st with
 | error e=>trivial
 | ok s=>exact⟨y,h.ok⟩
theorem Rx.cells(h:Rx W0 W rb l st y L):W.cell? ⟨rb,0,none⟩=some (.string l)/\W.cell? ⟨rb,1,none⟩=some (.int .i64 y.t.kind)/\W.cell? ⟨rb,2,none⟩=some (.int .i64 y.a)/\W.cell? ⟨rb,3,none⟩=some (.string y.t.text)/\W.cell? ⟨rb,4,none⟩=some (.int .i64 y.t.int)/\W.cell? ⟨rb,5,none⟩=some (.int .u64 y.t.bits):=by
 obtain⟨n,o,c,f,h1,h2⟩:=h.rd
 have h:=aA h1
 exact⟨h 0,h 1,h 2,h 3,h 4,h 5⟩
theorem sD(h:look s=.ok y):0<s.r.length:=by
 obtain⟨_,l,e⟩:=dS h
 rw[e]
 simp
theorem AY(s:Cs):mu (iJ s)<=s.r.length:=by
 unfold iJ
 split
 ·exact aY _
 ·exact aH _
theorem mu_step(h:look s=.ok y):mu (bJ (.ok s))<mu (.ok s):=by
 rw[gJ h]
 obtain⟨_,l,e⟩:=dS h
 have:=AY (behind y s)
 have hb:(behind y s).r.length+1=s.r.length:=by simp[behind,e]
 show _<s.r.length
 omega
theorem mu_step'(st:Se):mG st->mu (bJ st)<=mu st:=by
 intro h
 cases st with
 | error e=>exact aH _
 | ok s=>
  obtain⟨y,hy⟩:=h
  exact Nat.le_of_lt (mu_step hy)
theorem lK(st:Se):mu (jI st)=0:=by cases st <;> rfl
theorem AX(w:ByteArray)(h:mG st):mu (aN w st)<=mu st:=by
 unfold aN
 split
 ·exact mu_step' st h
 ·rw[lK];exact aY _
theorem GX(h:mG st):mu (bP st)<=mu st:=by
 unfold bP
 split
 ·exact mu_step' st h
 ·rw[lK];exact aY _
theorem Ec(w:ByteArray)(h:look s=.ok y):mu (aN w (.ok s))<mu (.ok s):=by
 unfold aN
 split
 ·exact mu_step h
 ·rw[lK];exact sD h
theorem aO.mu(h:aO p st st' o):mu st'<=mu st:=by
 cases st with
 | error e=>rw[show st'=.error e from h];exact aH _
 | ok s=>
  obtain⟨n,r,h1,h2⟩:=h
  match r,h1,h2 with
  | .error e,h1,h2=>
   have:st'=.error e:=h2
   rw[this]
   exact aY _
  | .ok (a,s'),h1,⟨h2,h3⟩=>
   rw[h2]
   have:=lT h1
   exact dI (AY s') (by show _<=s.r.length;omega)
def CT(m:Nd)(ks:Fo):Prop:=(m.kind=25->m.int=0/\m.bits=0/\ks=.nil)/\(m.kind=24->m.text=⟨#[]⟩/\m.int=0/\m.bits=0/\ks.len=2)
theorem PX{m:Nd}{ks:Fo}(h:m.kind≠25)(h2:m.kind≠24):CT m ks:=⟨λe=>absurd e h,λe=>absurd e h2⟩
def qH(W:World)(rb:Nat)(l:ByteArray)(p:Nt)(st:Se)(e:Ending)(w':World):Prop:=∃b m ks st' y',e=.returned (ptr b)/\Rx W w' rb l st' y' [(b,Fo.one m ks)]/\aO p st st' (some (Fo.one m ks))/\CT m ks
def nO(g:Nat)(p:Nt)(n:Nat):Prop:=∀W rb l st y,Rx W W rb l st y []->mu st<=n->Calls prog g #[ptr rb] W (qH W rb l p st)
def pU(g:Nat)(a:Value)(p:Nt)(n:Nat):Prop:=∀W rb l st y,Rx W W rb l st y []->mu st<=n->Calls prog g #[ptr rb,a] W (qH W rb l p st)
theorem nO.mono{g n m:Nat}(h:nO g p n)(hm:m<=n):nO g p m:=λW rb l st y h1 h2=>h W rb l st y h1 (dI h2 hm)
theorem pU.mono{g n m:Nat}{a:Value}(h:pU g a p n)(hm:m<=n):pU g a p m:=λW rb l st y h1 h2=>h W rb l st y h1 (dI h2 hm)
theorem Rx.up{b:Nat}{m:Nd}{ks:Fo}(h:Rx W0 W rb l st y L)(h1:Rx W w' rb l st' y' [(b,Fo.one m ks)])(ho:aO p st st' (some (Fo.one m ks))):Rx W0 w' rb l st' y' ((b,Fo.one m ks)::L):=by
 have h2:=h.next h1.rd ho.mu h1.upd
 refine⟨h2.rd,h2.sz,h2.mb,h2.upd,h2.lt,?_⟩
 intro p hp
 rcases eU.1 hp with rfl|hp
 ·exact(h1.ts _ (List.mem_singleton.2 rfl)).mono (λk e=>dI h.upd.size e)
 ·exact h2.ts p hp
theorem Rx.part{g n:Nat}(h:Rx W0 W rb l st y L)(c:nO g p n)(hn:mu st<=n):Calls prog g #[ptr rb] W λe w'=>∃b m ks st' y',e=.returned (ptr b)/\Rx W0 w' rb l st' y' ((b,Fo.one m ks)::L)/\aO p st st' (some (Fo.one m ks))/\CT m ks/\mu st'<=mu st:=by
 refine(c W rb l st y h.gP hn).mono ?_
 rintro e w' ⟨b,m,ks,st',y',he,h1,ho,hc⟩
 exact⟨b,m,ks,st',y',he,h.up h1 ho,ho,hc,ho.mu⟩
theorem Rx.jD{g n:Nat}{a:Value}(h:Rx W0 W rb l st y L)(c:pU g a p n)(hn:mu st<=n):Calls prog g #[ptr rb,a] W λe w'=>∃b m ks st' y',e=.returned (ptr b)/\Rx W0 w' rb l st' y' ((b,Fo.one m ks)::L)/\aO p st st' (some (Fo.one m ks))/\CT m ks/\mu st'<=mu st:=by
 refine(c W rb l st y h.gP hn).mono ?_
 rintro e w' ⟨b,m,ks,st',y',he,h1,ho,hc⟩
 exact⟨b,m,ks,st',y',he,h.up h1 ho,ho,hc,ho.mu⟩
theorem Rx.jZ{g n:Nat}(h:Rx W0 W rb l st y L)(c:nO g p n)(hn:mu st<=n):Calls prog g #[ptr rb] W λe w'=>∃b m ks st' y',e=.returned (ptr b)/\Rx W0 w' rb l st' y' L/\It.bL (λk=>k=rb) W w'/\cZ w' (λk=>W.heap.size<=k) [b] (Fo.one m ks)/\aO p st st' (some (Fo.one m ks))/\CT m ks/\mu st'<=mu st:=by
 refine(c W rb l st y h.gP hn).mono ?_
 rintro e w' ⟨b,m,ks,st',y',he,h1,ho,hc⟩
 exact⟨b,m,ks,st',y',he,h.next h1.rd ho.mu h1.upd,h1.upd,h1.ts _ (List.mem_singleton.2 rfl),ho,hc,ho.mu⟩
theorem Rx.res{b:Nat}{m:Nd}{ks:Fo}(h:Rx W w' rb l st' y' L)(hb:(b,Fo.one m ks) ∈ L)(ho:aO p st st' (some (Fo.one m ks)))(hc:CT m ks):qH W rb l p st (.returned (ptr b)) w':=⟨b,m,ks,st',y',rfl,h.sub (by intro p hp;simp at hp;subst hp;exact hb),ho,hc⟩
theorem Rx.node{W2:World}{bs:List Nat}{ks:Fo}{nd:Nd}(h:Rx W0 W rb l st y L)(hk:cZ W (λk=>W0.heap.size<=k) bs ks)(hl:bs.length<=maxLen)(hr:W2=W.alloc (.cells (bs.map ptr).toArray 40))(hB:Below W2.heap.size W2 w'){nb:Nat}(hnb:W2.heap.size<=nb)(hb:w'.heap[nb]? = some (.cells (oI nd (.slice (some ⟨W.heap.size,0,none⟩) bs.length bs.length)) 46 (0,0))):Rx W0 w' rb l st y ((nb,Fo.one nd ks)::L):=by
 have hB1:Below W.heap.size W W2:=by rw[hr];exact(aL _ W).alloc (aH _) _
 have h2:=(h.below hB1).below hB
 refine⟨h2.rd,h2.sz,h2.mb,h2.upd,h2.lt,?_⟩
 intro p hp
 rcases eU.1 hp with rfl|hp
 ·have hz:W2.heap.size=W.heap.size+1:=by rw[hr];simp
  have hz0:=h.upd.size
  have hr2:W2.heap[W.heap.size]? = some (.cells (bs.map ptr).toArray 40 (0,0)):=by rw[hr];exact bO W _
  have hr3:=aF hr2 hB
  refine cZ.mk (by omega) hb (Kn hr3 hl) ?_ ?_
  ·intro k e
   have:k=W.heap.size:=(Option.some.inj e).symm
   omega
  ·refine cZ.mono ?_ (((hk.lt).below hB1).below hB)
   intro k e
   refine⟨e.1,by omega,?_⟩
   intro c
   have:W.heap.size=k:=Option.some.inj c
   omega
 ·exact h2.ts p hp
theorem Rx.om{nd:Nd}{nb:Nat}(h:Rx W0 W rb l st y L)(hB:Below W.heap.size W w')(hnb:W.heap.size<=nb)(hb:w'.heap[nb]? = some (.cells (oI nd (.slice none 0 0)) 46 (0,0))):Rx W0 w' rb l st y ((nb,Fo.one nd .nil)::L):=by
 have h2:=h.below hB
 refine⟨h2.rd,h2.sz,h2.mb,h2.upd,h2.lt,?_⟩
 intro p hp
 rcases eU.1 hp with rfl|hp
 ·refine cZ.mk (v:=.slice none 0 0) (bk:=[]) ?_ hb (World.ownsRow_nil _ _ _ _) ?_ rfl
  ·have:=h.upd.size
   omega
  ·intro k e
   cases e
 ·exact h2.ts p hp
end
set_option linter.unusedSectionVars false
open Fo
def dz:Nat->List ByteArray
 | 3=>[⟨#[61,61]⟩,⟨#[33,61]⟩,⟨#[60]⟩,⟨#[60,61]⟩,⟨#[62]⟩,⟨#[62,61]⟩]
 | 4=>[⟨#[124]⟩]
 | 5=>[⟨#[94]⟩]
 | 6=>[⟨#[38]⟩]
 | 7=>[⟨#[60,60]⟩,⟨#[62,62]⟩]
 | 8=>[⟨#[43]⟩,⟨#[45]⟩]
 | 9=>[⟨#[42]⟩,⟨#[47]⟩,⟨#[47,47]⟩,⟨#[37]⟩]
 | _=>[]
def pR(zs:List ByteArray)(st:Se):Bool:=zs.any (λz=>bR z st)
section
variable {W0 W w':World} {rb:Nat} {l:ByteArray} {st st0 st1 st2 st':Se} {y y' z:Yd} {s s':Cs} {p:Nt} {o e? : Option Fo} {k r:Fo} {n:Nd}
theorem Gi(zs:List ByteArray)(e:jv):pR zs (.error e)=false:=by
 unfold pR
 rw[List.any_eq_false]
 intro z _
 simp[bR]
theorem any_ok(zs:List ByteArray)(hs:look s=.ok y):pR zs (.ok s)=zs.any (λz=>decide (aG y.t=z)):=by
 unfold pR
 show zs.any (λz=>decide (aG (qA s).t=z))=_
 rw[(dS hs).1]
theorem zX(hs:look s=.ok y){k:Nat}(hk:4<=k)(h9:k<=9):pR (dz k) (.ok s)=true↔tight (aG y.t)=k-3:=by
 rw[any_ok _ hs]
 generalize aG y.t=x
 rcases(by omega:k=4\/k=5\/k=6\/k=7\/k=8\/k=9) with rfl|rfl|rfl|rfl|rfl|rfl
 all_goals
  simp only[dz,List.any_cons,List.any_nil,Bool.or_false,Bool.or_eq_true,decide_eq_true_eq]
  refine⟨λh=>?_,λh=>?_⟩
  ·repeat' (rcases h with h|h)
   all_goals decide
  ·unfold tight at h
   repeat' split at h
   all_goals first|(exfalso;omega)|simp_all
theorem Da(hs:look s=.ok y):pR (dz 3) (.ok s)=comp (aG y.t):=by
 rw[any_ok _ hs]
 unfold comp
 simp only[dz,List.any_cons,List.any_nil,Bool.or_false,Bool.or_assoc]
theorem jL.of{q:Fo->Nt}(h:aO (q k) st st' o):jL q (some k) st st' o:=by
 intro k' hk
 cases st with
 | error e=>exact h
 | ok s=>
  have:=hk ⟨s,rfl⟩
  cases this
  exact h
def Inv(q:Fo->Nt)(p:Nt)(st0:Se)(k:Fo)(st:Se):Prop:=∀st2 o,aO (q k) st st2 o->aO p st0 st2 o
theorem Inv.bad{q:Fo->Nt}{e:jv}(h:Inv q p st0 k (.error e)):aO p st0 (.error e) o:=h _ _ aO.bad
theorem Si(h:aO .cj st0 st1 (some k))(hg:mG st0):Inv .xB .ex st0 k st1:=λst2 o g=>WA h (jL.of g) hg
theorem JE(hI:Inv .xB .ex st0 k (.ok s))(hs:look s=.ok y)(hw:bR Cw (.ok s)=true)(h:aO .cj (bJ (.ok s)) st1 (some r)):Inv .xB .ex st0 (one (kT 18 y) (k.app r)) st1:=λst2 o g=>hI _ _ (TI hs hw h (jL.of g))
theorem Es(hI:Inv .xB .ex st0 k st)(hs:∀s,st=.ok s->look s=.ok y)(hw:bR Cw st=false):aO .ex st0 st (some k):=by
 cases st with
 | error e=>exact hI.bad
 | ok s=>exact hI _ _ (PS (hs s rfl) hw)
theorem Sj(h:aO .ng st0 st1 (some k))(hg:mG st0):Inv .xH .cj st0 k st1:=λst2 o g=>WV h (jL.of g) hg
theorem JF(hI:Inv .xH .cj st0 k (.ok s))(hs:look s=.ok y)(hw:bR uP (.ok s)=true)(h:aO .ng (bJ (.ok s)) st1 (some r)):Inv .xH .cj st0 (one (kT 19 y) (k.app r)) st1:=λst2 o g=>hI _ _ (P5 hs hw h (jL.of g))
theorem Et(hI:Inv .xH .cj st0 k st)(hs:∀s,st=.ok s->look s=.ok y)(hw:bR uP st=false):aO .cj st0 st (some k):=by
 cases st with
 | error e=>exact hI.bad
 | ok s=>exact hI _ _ (P6 (hs s rfl) hw)
theorem Sk{j:Nat}(hj:¬6<j)(h:aO (.bn (j+1)) st0 st1 (some k))(hg:mG st0):Inv (.xM j) (.bn j) st0 k st1:=λst2 o g=>WX hj h (jL.of g) hg
theorem JG{j:Nat}(hI:Inv (.xM j) (.bn j) st0 k (.ok s))(hs:look s=.ok y)(hw:tight (aG y.t)=j)(h:aO (.bn (j+1)) (bJ (.ok s)) st1 (some r)):Inv (.xM j) (.bn j) st0 (one (jr 21 y) (k.app r)) st1:=λst2 o g=>hI _ _ (TY hs hw h (jL.of g))
theorem Eu{j:Nat}(hI:Inv (.xM j) (.bn j) st0 k st)(hs:∀s,st=.ok s->look s=.ok y)(hw:∀s,st=.ok s->tight (aG y.t)≠j):aO (.bn j) st0 st (some k):=by
 cases st with
 | error e=>exact hI.bad
 | ok s=>exact hI _ _ (P9 (hs s rfl) (hw s rfl))
theorem Sg(h:aO .pr st0 st1 (some k))(hg:mG st0):Inv .wI .po st0 k st1:=λst2 o g=>VA h (jL.of g) hg
theorem JD(hI:Inv .wI .po st0 k (.ok s))(hs:look s=.ok y)(hw:bR oz (.ok s)=true)(h:aO .ex (bJ (.ok s)) st1 (some r)):Inv .wI .po st0 (one (kT 24 y) (k.app r)) (aN zF st1):=λst2 o g=>hI _ _ (Rk hs hw h rfl (jL.of g))
theorem Er(hI:Inv .wI .po st0 k st)(hs:∀s,st=.ok s->look s=.ok y)(hw:bR oz st=false):aO .po st0 st (some k):=by
 cases st with
 | error e=>exact hI.bad
 | ok s=>exact hI _ _ (O6 (hs s rfl) hw)
def F6(b:Bool)(st0:Se)(k:Fo)(st:Se):Prop:=∀st1 r? st2 o,aO (if b=true then .pm else .ex) st st1 r? -> jL (λx=>.oq b (k.app x)) r? st1 st2 o->aO (.oq b .nil) st0 st2 o
theorem Ep{b:Bool}(hs:look s=.ok y)(hw:bR fM (.ok s)=false):F6 b (.ok s) .nil (.ok s):=λst1 r? st2 o h g=>Iu hs hw rfl h g
theorem PY(hs:look s=.ok y)(hw:bR nE (.ok s)=true):bR fM (.ok s)=false:=by
 have h:=(ak hs).1 hw
 cases q:bR fM (.ok s) with
 | false=>rfl
 | true=>
  have h2:=(ak hs).1 q
  rw[h] at h2
  exact absurd h2 (by decide)
theorem zJ{b:Bool}(hI:F6 b st0 k st)(h:aO (if b=true then .pm else .ex) st (.ok s) (some r))(hl:(k.app r).len≠0)(hs:look s=.ok y)(hw:bR nE (.ok s)=true):F6 b st0 (k.app r) (bJ (.ok s)):=
 λst1 r? st2 o h2 g=>hI _ _ _ _ h (jL.of (q:=λx=>Nt.oq b (k.app x)) (Ls hs (PY hs hw) hl hw h2 g))
theorem Cz{b:Bool}(hI:F6 b st0 k st)(h:aO (if b=true then .pm else .ex) st st1 (some r))(hl:(k.app r).len≠0)(hs:∀s,st1=.ok s->look s=.ok y)(hw:bR nE st1=false):aO (.oq b .nil) st0 (aN fM st1) (some (k.app r)):=by
 refine hI _ _ _ _ h ?_
 cases st1 with
 | error e=>exact jL.of (q:=λx=>Nt.oq b (k.app x)) aO.bad
 | ok s=>
  have hs:=hs s rfl
  refine jL.of (q:=λx=>Nt.oq b (k.app x)) ?_
  cases q:bR fM (.ok s) with
  | true=>
   rw[gF hs q]
   exact G6 hs q
  | false=>
   rw[jA hs q]
   exact SV hs q hl hw
theorem G5{b:Bool}(hs:look s=.ok y)(hw:bR fM (.ok s)=true):aO (.oq b .nil) (.ok s) (aN fM (.ok s)) (some .nil):=by
 rw[gF hs hw]
 exact G6 hs hw
theorem JH(hI:Inv .zU p st0 k (.ok s))(hs:look s=.ok y)(hw:bR nC (.ok s)=false)(h:aO .st (.ok s) st1 (some r)):Inv .zU p st0 (k.app r) st1:=λst2 o g=>hI _ _ (Ta hs hw h (jL.of (q:=λx=>Nt.zU (k.app x)) g))
theorem wY(hI:Inv .zU p st0 k st)(hs:∀s,st=.ok s->look s=.ok y)(hw:∀s,st=.ok s->bR nC st=true):aO p st0 (aN nC st) (some k):=by
 cases st with
 | error e=>exact hI.bad
 | ok s=>
  rw[gF (hs s rfl) (hw s rfl)]
  exact hI _ _ (Pd (hs s rfl) (hw s rfl))
theorem tq(hI:Inv .pg p st0 k (.ok s))(hs:look s=.ok y)(hk:y.t.kind≠7)(h:aO (if aG y.t=fU then .gl else .fu) (.ok s) st1 (some r)):Inv .pg p st0 (k.app r) st1:=λst2 o g=>hI _ _ (VF hs hk h (jL.of (q:=λx=>Nt.pg (k.app x)) g))
end
theorem Gh(x w:ByteArray):(x.toList==w.toList)=decide (x=w):=by
 by_cases h:x=w
 ·rw[h];simp
 ·rw[NG h];simp[h]
section
variable {W0 W w':World} {rb:Nat} {l:ByteArray} {st st':Se} {y y' z:Yd} {s s':Cs} {L:List (Nat × Fo)} {p:Nt} {o:Option Fo} {f:jv}
theorem ji(h:Rx W0 W rb l (.error f) y L):Calls prog 10 #[ptr rb] W λx w'=>x=.returned (.bool true)/\w'=W:=by
 obtain⟨n,o,c,g,h1,h2⟩:=h.rd
 have c8:W.cell? ⟨rb,8,none⟩=some (.int .i64 c):=aA h1 8
 have k:(c != 0)=true:=by simp[h2.2.2]
 clear h h1 h2
 go_enter func10,ntmps10
 go_wp2
 go_ret
 exact⟨rfl,rfl⟩
theorem dH(h:Rx W0 W rb l (.ok s) y L):Calls prog 10 #[ptr rb] W λx w'=>x=.returned (.bool false)/\w'=W:=by
 obtain⟨n,o,c,g,h1,h2⟩:=h.rd
 have hc:c=0:=h2.1
 subst hc
 have c8:W.cell? ⟨rb,8,none⟩=some (.int .i64 0):=aA h1 8
 clear h h1 h2
 go_enter func10,ntmps10
 go_wp2
 go_ret
 exact⟨rfl,rfl⟩
theorem Sd(h:Rx W0 W rb l (.error f) y L)(w:ByteArray):Calls prog 11 #[ptr rb,.string w] W λx w'=>x=.returned (.bool false)/\w'=W:=by
 go_enter func11,ntmps11
 go_wp2_with (go_at_call 10;(with_reducible refine(ji h).mono ?_);rintro x w2 ⟨rfl,hw⟩;(have hw':=hw.symm);subst hw';clear hw)
 go_ret
 exact⟨rfl,rfl⟩
theorem V4(h:Rx W0 W rb l (.ok s) y L)(w:ByteArray)(hw:w≠⟨#[]⟩):Calls prog 11 #[ptr rb,.string w] W λx w'=>x=.returned (.bool (decide (aG y.t=w)))/\w'=W:=by
 obtain⟨_,c1,_,c3,_,_⟩:=h.cells
 by_cases h2:y.t.kind=2
 ·have hx:aG y.t=y.t.text:=by simp[aG,h2]
  rw[hx,<- Gh]
  have b2:(y.t.kind==2)=true:=by simp[h2]
  clear h2 hx
  go_enter func11,ntmps11
  go_wp2_with (go_at_call 10;(with_reducible refine(dH h).mono ?_);rintro x w2 ⟨rfl,hw⟩;(have hw':=hw.symm);subst hw';clear hw)
  go_ret
  exact⟨rfl,rfl⟩
 ·have b2:(y.t.kind==2)=false:=by simp[h2]
  by_cases h3:y.t.kind=3
  ·have hx:aG y.t=y.t.text:=by simp[aG,h3]
   rw[hx,<- Gh]
   have b3:(y.t.kind==3)=true:=by simp[h3]
   clear h2 h3 hx
   go_enter func11,ntmps11
   go_wp2_with (go_at_call 10;(with_reducible refine(dH h).mono ?_);rintro x w2 ⟨rfl,hw⟩;(have hw':=hw.symm);subst hw';clear hw)
   go_ret
   exact⟨rfl,rfl⟩
  ·have hx:aG y.t=⟨#[]⟩:=by simp[aG,h2,h3]
   have hd:decide (aG y.t=w)=false:=by rw[hx];simp;exact λe=>hw e.symm
   rw[hd]
   have b3:(y.t.kind==3)=false:=by simp[h3]
   clear h2 h3 hx hd
   go_enter func11,ntmps11
   go_wp2_with (go_at_call 10;(with_reducible refine(dH h).mono ?_);rintro x w2 ⟨rfl,hw⟩;(have hw':=hw.symm);subst hw';clear hw)
   go_ret
   exact⟨rfl,rfl⟩
theorem Rx.is(h:Rx W0 W rb l st y L)(w:ByteArray)(hw:w≠⟨#[]⟩):Calls prog 11 #[ptr rb,.string w] W λx w'=>x=.returned (.bool (bR w st))/\w'=W:=by
 cases st with
 | error f=>exact Sd h w
 | ok s=>
  have:=V4 h w hw
  rw[<- (dS h.ok).1] at this
  exact this
theorem Rx.lX(h:Rx W0 W rb l st y L)(w:ByteArray)(hw:w≠⟨#[]⟩)(g:bR w st=true):Calls prog 11 #[ptr rb,.string w] W λx w'=>x=.returned (.bool true)/\w'=W:=by
 have:=h.is w hw
 rwa [g] at this
theorem Rx.nG(h:Rx W0 W rb l st y L)(w:ByteArray)(hw:w≠⟨#[]⟩)(g:bR w st=false):Calls prog 11 #[ptr rb,.string w] W λx w'=>x=.returned (.bool false)/\w'=W:=by
 have:=h.is w hw
 rwa [g] at this
theorem Bw(t:Tk)(hk:BJ t)(a:Int)(W:World):Calls prog 25 #[.agg #[.int .i64 t.kind,.int .i64 a,.string t.text,.int .i64 t.int,.int .u64 t.bits]] W λx w'=>x=.returned (.bool (dx t))/\Below W.heap.size W w':=by
 by_cases h3:t.kind=3
 ·have ho:dx t=((t.text.toList==[40]||t.text.toList==[91])||t.text.toList==[123]):=by
   have hx:aG t=t.text:=by simp[aG,h3]
   unfold dx
   rw[hx,<- kE,<- kE,<- kE]
  rw[ho]
  have b3:(t.kind==3)=true:=by simp[h3]
  clear ho h3 hk
  cases h1:(t.text.toList==[40])
  ·cases h2:(t.text.toList==[91])
   ·cases h4:(t.text.toList==[123]) <;> (go_enter func25,ntmps25;go_wp2;go_ret;exact⟨rfl,(aL _ _).alloc (aH _) _⟩)
   ·go_enter func25,ntmps25
    go_wp2
    go_ret
    exact⟨rfl,(aL _ _).alloc (aH _) _⟩
  ·go_enter func25,ntmps25
   go_wp2
   go_ret
   exact⟨rfl,(aL _ _).alloc (aH _) _⟩
 ·have ho:dx t=false:=by
   unfold dx aG
   by_cases h2:t.kind=2
   ·have:=hk.2.2.2.1 h2
    rw[if_pos (.inl h2)]
    simp only[not_or] at this
    simp[this]
   ·rw[if_neg (by omega)]
    decide
  rw[ho]
  have b3:(t.kind==3)=false:=by simp[h3]
  clear ho h3 hk
  go_enter func25,ntmps25
  go_wp2
  go_ret
  exact⟨rfl,(aL _ _).alloc (aH _) _⟩
theorem oh(k a:Int)(t:ByteArray)(o:Option Addr)(n c:Nat)(W:World):Calls prog 9 #[.int .i64 k,.int .i64 a,.string t,.slice o n c] W λx w'=>x=.returned (ptr W.heap.size)/\w'=W.alloc (.cells (oI ⟨k,a,t,0,0⟩ (.slice o n c)) 46):=by
 go_enter func9,ntmps9
 go_wp2
 go_ret
 exact⟨rfl,rfl⟩
theorem Rx.nd0(h:Rx W0 W rb l st y L)(k a:Int)(t:ByteArray):Calls prog 9 #[.int .i64 k,.int .i64 a,.string t,.slice none 0 0] W λx w'=>∃b,x=.returned (ptr b)/\Rx W0 w' rb l st y ((b,Fo.one ⟨k,a,t,0,0⟩ .nil)::L):=by
 refine(oh k a t none 0 0 W).mono ?_
 rintro x w' ⟨hx,rfl⟩
 exact⟨_,hx,h.om ((aL _ W).alloc (aH _) _) (aH _) (bO W _)⟩
theorem Rx.Od{b1:Nat}{f1:Fo}(h:Rx W0 W rb l st y L)(k a:Int)(t:ByteArray)(m1:(b1,f1) ∈ L):Calls prog 9 #[.int .i64 k,.int .i64 a,.string t,.slice (some ⟨W.heap.size,0,none⟩) 1 1] (W.alloc (.cells #[ptr b1] 40)) λx w'=>∃b,x=.returned (ptr b)/\Rx W0 w' rb l st y ((b,Fo.one ⟨k,a,t,0,0⟩ f1)::L):=by
 refine(oh k a t _ 1 1 _).mono ?_
 rintro x w' ⟨hx,rfl⟩
 exact⟨_,hx,h.node (bs:=[b1]) (h.ts _ m1) (by have:=one_le;simp;omega) rfl ((aL _ _).alloc (aH _) _) (aH _) (bO _ _)⟩
theorem Rx.UQ{b1 b2:Nat}{f1 f2:Fo}(h:Rx W0 W rb l st y L)(k a:Int)(t:ByteArray)(m1:(b1,f1) ∈ L)(m2:(b2,f2) ∈ L):Calls prog 9 #[.int .i64 k,.int .i64 a,.string t,.slice (some ⟨W.heap.size,0,none⟩) 2 2] (W.alloc (.cells #[ptr b1,ptr b2] 40)) λx w'=>∃b,x=.returned (ptr b)/\Rx W0 w' rb l st y ((b,Fo.one ⟨k,a,t,0,0⟩ (f1.app f2))::L):=by
 refine(oh k a t _ 2 2 _).mono ?_
 rintro x w' ⟨hx,rfl⟩
 exact⟨_,hx,h.node (bs:=[b1,b2]) ((h.ts _ m1).app (h.ts _ m2)) (by have:=one_le;simp;omega) rfl ((aL _ _).alloc (aH _) _) (aH _) (bO _ _)⟩
theorem Rx.wrong(h:Rx W0 W rb l st y L):Calls prog 16 #[ptr rb] W λx w'=>∃b,x=.returned (ptr b)/\Rx W0 w' rb l (jI st) y ((b,Fo.one ⟨0,0,⟨#[]⟩,0,0⟩ .nil)::L):=by
 cases st with
 | error f=>
  have H:=hid h
  go_enter func16,ntmps16
  go_wp2_with (go_at_call 10;(with_reducible refine(ji h).mono ?_);rintro x w2 ⟨rfl,hw⟩;(have hw':=hw.symm);subst hw';clear hw)
  go_ret
  exact⟨_,rfl,H.out.om ((aL _ W).alloc (aH _) _) (aH _) (bO W _)⟩
 | ok s=>
  obtain⟨n,o,c,g,h1,h2⟩:=h.rd
  have c2:W.cell? ⟨rb,2,none⟩=some (.int .i64 y.a):=aA h1 2
  have c8:W.cell? ⟨rb,8,none⟩=some (.int .i64 c):=aA h1 8
  have c9:W.cell? ⟨rb,9,none⟩=some (.int .i64 g):=aA h1 9
  have z1:=aC h1
  have hd:=(dS h.ok).1
  have H1:=hid h1
  clear h1 h2
  go_enter func16,ntmps16
  go_wp2_with (go_at_call 10;(with_reducible refine(dH h).mono ?_);rintro x w2 ⟨rfl,hw⟩;(have hw':=hw.symm);subst hw';clear hw)
  go_ret
  have t8:=aM (c:=(yS l y n o c g).toList) H1.out 8 (.int .i64 70)
  have t9:=aM (c:=((yS l y n o c g).toList.set 8 (.int .i64 70))) t8 9 (.int .i64 y.a)
  have hu:It.bL (λk=>k=rb) W ((W.setCell ⟨rb,8,none⟩ (.int .i64 70)).setCell ⟨rb,9,none⟩ (.int .i64 y.a)):=((It.bL.refl (λk=>k=rb) W).setCell (p:=⟨rb,8,none⟩) (.inl rfl) _).setCell (p:=⟨rb,9,none⟩) (.inl rfl) _
  have hr:Rd ((W.setCell ⟨rb,8,none⟩ (.int .i64 70)).setCell ⟨rb,9,none⟩ (.int .i64 y.a)) rb l (jI (.ok s)) y:=⟨n,o,70,y.a,t9,by show (70:Int)=70/\y.a=(qA s).a/\(70:Int)≠0;rw[hd];exact⟨rfl,rfl,by decide⟩⟩
  have hx:=h.next hr (aY _) hu
  refine⟨_,rfl,?_⟩
  exact hx.om ((aL _ _).alloc (aH _) _) (by simp) (by have:=bO ((W.setCell ⟨rb,8,none⟩ (.int .i64 70)).setCell ⟨rb,9,none⟩ (.int .i64 y.a)) (.cells (oI ⟨0,0,⟨#[]⟩,0,0⟩ (.slice none 0 0)) 46);simp only[World.size_setCell] at this;exact this)
end
end Go.Proofs.YtgchnkgolclmgaaGreatDoor.W.Tr

import Derived.Test.YtgchnkgolclmgaaGreatDoorProg
import Derived.Below
import Derived.BigQuiet
import Derived.Deep.QuietTactic
import Derived.KernelRfl
import Derived.Laws.BitsAllLaws
import Derived.Laws.OwnMore
import Derived.LoopIn
import Derived.LoopNIn
import Derived.OwnWalkIn
import Derived.RangeFuncBound
import Derived.RangeFuncCalls
import Derived.RangeFuncLeaves
import Derived.RangeFuncNested
import Derived.Shelf.Abstract
import Derived.Shelf.RegionOpen
import Derived.TacticsInMore
import Derived.WalkKit
import Derived.WalkLawsBesides
import Derived.Deep.RegionHeld3
import Derived.Deep.Quiet
import Derived.OrdersHeld
open Array renaming replicate → aH, getElem?_eq_none → aL, getElem?_eq_some_iff → ay
open Go.World renaming putObj_heap_other → bO, alloc_heap_new → bY
open Bool renaming and_eq_true → aY
set_option maxRecDepth 1000000
set_option maxHeartbeats 8000000
namespace Go.Proofs.YtgchnkgolclmgaaGreatDoor.W.It
open Go.ChangeShapes Go.WideShapes Go.RowKit Go.Shelf
set_option linter.unusedVariables false
structure bL (S:Nat->Prop) (W W':World):Prop where
 os:W'.os=W.os
 tape:W'.tape=W.tape
 output:W'.output=W.output
 size:W.heap.size<=W'.heap.size
 block:∀k,k<W.heap.size->¬S k->W'.heap[k]? = W.heap[k]?
def Nx(S:Nat->Prop)(W W':World):Nat->Prop:=λk=>S k\/(W.heap.size<=k/\k<W'.heap.size)
theorem Nx.on{S:Nat->Prop}{a b c:World}{k:Nat}(h:Nx S a b k)(hs:b.heap.size<=c.heap.size):Nx S a c k:=h.imp id (λg=>⟨g.1,Nat.lt_of_lt_of_le g.2 hs⟩)
theorem bL.refl(S:Nat->Prop)(W:World):bL S W W:=⟨rfl,rfl,rfl,Nat.le_refl _,λ_ _ _=>rfl⟩
theorem bL.trans{S:Nat->Prop}{a b c:World}(h:bL S a b)(k:bL (Nx S a b) b c):bL S a c:=
 ⟨k.os.trans h.os,k.tape.trans h.tape,k.output.trans h.output,Nat.le_trans h.size k.size,λi hi hn=>(k.block i (Nat.lt_of_lt_of_le hi h.size) (λg=>g.elim hn (λg=>by omega))).trans (h.block i hi hn)⟩
theorem bL.mono{S T:Nat->Prop}{a b:World}(h:bL S a b)(hs:∀k,S k->T k):bL T a b:=⟨h.os,h.tape,h.output,h.size,λk hk hn=>h.block k hk (λg=>hn (hs k g))⟩
theorem bL.trans'{S:Nat->Prop}{a b c:World}(h:bL S a b)(k:bL S b c):bL S a c:=h.trans (k.mono λ_ g=>.inl g)
theorem bL.below{S:Nat->Prop}{a b:World}(h:bL S a b){n:Nat}(hn:n<=a.heap.size)(hs:∀k,S k->n<=k):Below n a b:=
 ⟨h.os,h.tape,h.output,h.size,λk hk=>h.block k (by omega) (λg=>by have:=hs k g;omega)⟩
theorem bL.of_below{S:Nat->Prop}{a b:World}(h:Below a.heap.size a b):bL S a b:=⟨h.os,h.tape,h.output,h.size,λk hk _=>h.block k hk⟩
theorem bL.drewN{S:Nat->Prop}{a b:World}(h:bL S a b)(n:Nat):bL S a (b.drewN n):=⟨h.os,h.tape,h.output,h.size,h.block⟩
theorem bL.drew{S:Nat->Prop}{a b:World}(h:bL S a b):bL S a b.drew:=⟨h.os,h.tape,h.output,h.size,h.block⟩
theorem bL.alloc{S:Nat->Prop}{a b:World}(h:bL S a b)(o:Obj):bL S a (b.alloc o):=
 h.trans' ⟨rfl,rfl,rfl,by simp,λk hk _=>Below.heap_alloc _ _ _ hk⟩
theorem bL.setCell{S:Nat->Prop}{a b:World}(h:bL S a b){p:Addr}(hp:Nx S a b p.block)(u:Value):bL S a (b.setCell p u):=
 h.trans ⟨rfl,rfl,rfl,by simp[World.setCell],λk _ hn=>Below.heap_setCell _ _ _ _ (by rintro rfl;exact hn hp)⟩
theorem bL.grown{S:Nat->Prop}{a b c:World}{row:Option Nat}(h:bL S a b)(hg:b.grownBy c row)(hr:∀k,row=some k->Nx S a b k):bL S a c:=
 h.trans ⟨hg.os,hg.tape,hg.output,hg.size,λk hk hn=>hg.block k hk (by rintro e;exact hn (hr k e.symm))⟩
structure eD (W:World) (L D:Nat) (r:Loop):Prop where
 lp:W.heap[L]? = some (.loop r)
 defs:W.heap[D]? = some (.deferred (some []))
theorem eD.kept{W W':World}{L D:Nat}{r:Loop}(h:eD W L D r)(h1:W'.heap[L]? = W.heap[L]?)(h2:W'.heap[D]? = W.heap[D]?):eD W' L D r:=⟨h1.trans h.lp,h2.trans h.defs⟩
theorem eD.put{W:World}{L D:Nat}{r:Loop}(h:eD W L D r)(q:Loop):eD (W.putObj L (.loop q)) L D q:=by
 refine⟨World.putObj_heap_same (ay.1 h.lp).1,?_⟩
 rw[bO (by rintro rfl;have:=h.lp;rw[h.defs] at this;cases this)]
 exact h.defs
theorem bL.putObj{S:Nat->Prop}{a b:World}(h:bL S a b){L:Nat}(hp:Nx S a b L)(o:Obj):bL S a (b.putObj L o):=
 h.trans ⟨rfl,rfl,rfl,by simp,λk _ hn=>bO (by rintro rfl;exact hn hp)⟩
def Gf(L D:Nat)(r:Loop)(Rn:World->Prop)(Rx:Code->World->Prop):Exit->Act->World->Prop
 | .normal,_,W=>eD W L D { r with state:=.busy }/\Rn (W.putObj L (.loop { r with state:=.ready,pending:=none }))
 | .ret,_,W=>eD W L D { r with state:=.busy }/\Rx .ret (W.putObj L (.loop { r with state:=.done,pending:=some .ret }))
 | .exit id,_,W=>eD W L D { r with state:=.busy }/\Rx (.exit id) (W.putObj L (.loop { r with state:=.done,pending:=some (.exit id) }))
 | _,_,_=>False
theorem Gs{P:Program}{m L D:Nat}{r:Loop}{args:Array Value}{W:World}{Rn:World->Prop}{Rx:Code->World->Prop}(hl:eD W L D r)(hr:r.state=.ready)(hs:args.size=r.params.size)(a1:Act)
  (hassign:∀K:Act->World->Prop,K a1 W->r.assign.wpIn (Fence.wide.inRound L) m P (Exit.then K (λ_ _ _=>False)) { tmps:=(r.params.zip args).foldl (λt (p,v)=>t.setIfInBounds p v) r.tmps,defers:=[] } W)
  (hbody:∀W2,W2=W.putObj L (.loop { r with state:=.busy })->eD W2 L D { r with state:=.busy }->r.body.wpIn (Fence.wide.inRound L) m P (Gf L D r Rn Rx) a1 W2) :
  YieldAt Fence.wide m P L args W (λe W'=>(e=.returned (.bool true)/\Rn W')\/(e=.returned (.bool false)/\∃c,Rx c W')):=by
 have hy:=run_yield (P:=P) (args:=args) hl.lp hs
 refine⟨r.fn,_,r.assign,r.body,hy,roundIn_of_wpIn (F:=Fence.wide) trivial (hassign _ ⟨_,run_beginRound hl.lp hr,?_⟩)⟩
 refine wpIn_mono (hbody _ rfl (hl.put _)) ?_
 rintro e a3 W3 hp
 cases e with
 | normal=>
  obtain⟨h3,h4⟩:=hp
  exact⟨_,_,run_endRound none h3.lp,.inl ⟨rfl,h4⟩⟩
 | ret=>
  obtain⟨h3,h4⟩:=hp
  exact⟨_,_,run_endRound (some .ret) h3.lp,.inr ⟨rfl,_,h4⟩⟩
 | exit id=>
  obtain⟨h3,h4⟩:=hp
  exact⟨_,_,run_endRound (some (.exit id)) h3.lp,.inr ⟨rfl,_,h4⟩⟩
 | goto t=>exact hp.elim
 | panic ch=>exact hp.elim
 | outgrown=>exact hp.elim
theorem Ku{P:Program}{n:Nat}{g:Operand}{ps:Array Tmp}{assign body:Code}{Q:Exit->Act->World->Prop}{a:Act}{w:World}{gf:Nat}{lb:Array Value}(hg:a.eval g=.func (.func gf) #[] lb)(eg:∀args w,(callFunc gf args).run P w=.ok (.enter gf args) w)
  (Dn:World->Prop) (Sp:Code->World->Prop)
  (hcall:∀ (r:Loop) (W1:World),r.state=.ready->r.pending=none->r.tmps=a.tmps->r.params=ps->r.assign=assign->r.body=body->W1=(w.alloc (.deferred (some []))).alloc (.loop r)->eD W1 (w.heap.size+1) w.heap.size r ->
   CallsIn Fence.wide (n-1) P gf (#[.func (.yield (w.heap.size+1)) #[] #[]]++lb) W1 λe W3=>(∃v,e=.returned v)/\((Dn W3/\∃q:Loop,eD W3 (w.heap.size+1) w.heap.size q/\q.state ≠ .busy/\q.pending=none)\/(∃c,Sp c W3/\∃q:Loop,eD W3 (w.heap.size+1) w.heap.size q/\q.state ≠ .busy/\q.pending=some c)))
  (hdone:∀ (W3:World) (q:Loop),Dn W3->eD (W3.putObj (w.heap.size+1) (.loop q)) (w.heap.size+1) w.heap.size q->Q .normal { a with defers:={ target:=.collected w.heap.size,args:=#[] }::a.defers } (W3.putObj (w.heap.size+1) (.loop q)))
  (hstop:∀ (W3:World) (q:Loop) (c:Code),Sp c W3->eD (W3.putObj (w.heap.size+1) (.loop q)) (w.heap.size+1) w.heap.size q->c.wpIn Fence.wide n P Q { a with defers:={ target:=.collected w.heap.size,args:=#[] }::a.defers } (W3.putObj (w.heap.size+1) (.loop q))) :
  (Code.rangeFunc g ps assign body).wpIn Fence.wide n P Q a w:=by
 refine wpIn_rangeFunc ?_
 intro fn hfn
 obtain⟨r,hr⟩:∃r:Loop,r={ state:=.ready,pending:=none,fn,tmps:=a.tmps,params:=ps,assign,body,defers:=w.heap.size }:=⟨_,rfl⟩
 obtain⟨W1,hW1⟩:∃W1,W1=(w.alloc (.deferred (some []))).alloc (.loop r):=⟨_,rfl⟩
 have hL1:W1.heap[w.heap.size+1]? = some (.loop r):=by
  rw[hW1];have:=bY (w.alloc (.deferred (some []))) (.loop r);rwa [World.size_alloc] at this
 have hK1:W1.heap[w.heap.size]? = some (.deferred (some [])):=by
  rw[hW1];exact(Below.heap_alloc _ _ _ (by simp)).trans (bY w _)
 refine⟨w.heap.size+1,[{ target:=.collected w.heap.size,args:=#[] }],W1,{ target:=.fn (.func gf) lb,args:=#[.func (.yield (w.heap.size+1)) #[] #[]] },W1,gf,#[.func (.yield (w.heap.size+1)) #[] #[]]++lb,W1,?_,?_,?_,?_,λh=>by simp[Fence.wide] at h,?_⟩
 ·rw[hW1,hr];exact run_enterLoop_outer _ _ _ _ _
 ·simp only[resolve,hg]
  simp[go_sem]
 ·intro f' hf';trivial
 ·simp[invoke,go_sem,eg]
 ·refine(hcall r W1 (by rw[hr]) (by rw[hr]) (by rw[hr]) (by rw[hr]) (by rw[hr]) (by rw[hr]) hW1 ⟨hL1,hK1⟩).mono ?_
  rintro e W3 ⟨⟨v,rfl⟩,⟨hd,q,hq,hs,hp⟩|⟨c,hd,q,hq,hs,hp⟩⟩
  ·refine⟨none,_,by rw[<- hp];exact run_endLoop hq.lp hs,?_⟩
   exact hdone W3 _ hd (hq.put _)
  ·refine⟨some c,_,by rw[<- hp];exact run_endLoop hq.lp hs,?_⟩
   exact hstop W3 _ c hd (hq.put _)
theorem kY{W:World}{S:Nat->Prop}{L:Nat}(hL:S L)(o:Obj):bL S W (W.putObj L o):=(bL.refl S W).putObj (.inl hL) o
theorem eZ{W W':World}{p:Addr}{v:Value}(hb:Below W.heap.size W W')(h:W.cell? p=some v):W'.cell? p=some v:=by
 rcases Nat.lt_or_ge p.block W.heap.size with c|c
 ·rw[hb.cell c];exact h
 ·exfalso
  have e:W.heap[p.block]? = none:=aL c
  simp[World.cell?,e] at h
theorem EZ{P:Program}{L n:Nat}{o:Oper}{a:Act}{w:World}{K K':Act->World->Prop}{Q:Exit->Act->World->Prop}(hd:∀c,o.op ≠ .defer c)(hK:∀a w,K a w->K' a w)(h:o.wp P a w K Q):o.wpIn (Fence.wide.inRound L) n P a w K' Q:=by
 refine⟨λ_ _=>trivial,?_⟩
 rw[Oper.semAt_eq _ _ _ hd]
 unfold Oper.wp at h
 generalize (execOp a.eval o).run P w=r at *
 cases r with
 | ok x w'=>
  cases x with
  | value v=>exact hK _ _ h
  | skip=>exact hK _ _ h
  | defer d=>exact hK _ _ h
  | enter f args=>
   refine⟨λe=>by simp[Fence.wide,Fence.inRound] at e,?_⟩
   refine CallsIn.inRound L (callsIn_wide.2 (Calls.mono h ?_))
   intro e w'' he
   cases e with
   | returned v=>exact hK _ _ he
   | panicked ch=>exact he
   | outgrown=>exact he
  | row row args=>
   refine⟨λe=>by simp[Fence.wide,Fence.inRound] at e,?_⟩
   intro c cs _
   obtain⟨v,w'',hr,hs⟩:=h c cs
   exact⟨v,w'',hK _ _ hr,stepsIn_wide.2 hs⟩
  | round l f tmps assign body=>exact h.elim
  | _=>exact h.elim
 | halt x w'=>cases x <;> first|exact h|exact h.elim
theorem Ch{P:Program}{L n:Nat}{ops:Array Oper}{i:Nat}{a:Act}{w:World}{K K':Act->World->Prop}{Q:Exit->Act->World->Prop}(hd:∀ (i:Nat) (o:Oper),ops[i]? = some o->∀c,o.op ≠ .defer c)(hno:¬LetsOut Q)(hK:∀a w,K a w->K' a w)(h:wpOp P ops Q i K a w):wpOpIn (Fence.wide.inRound L) n P ops Q i K' a w:=by
 unfold wpOp at h
 unfold wpOpIn
 cases ho:ops[i]? with
 | none=>rw[ho] at h;exact hK _ _ h
 | some o=>
  rw[ho] at h
  simp only at h ⊢
  split
  ·rename_i hw
   rw[if_pos hw] at h
   rcases h with h|h
   ·exact EZ (hd i o ho) hK h
   ·exact absurd h.2 hno
  ·rename_i hw
   rw[if_neg hw] at h
   exact⟨λ_ _=>trivial,hK _ _ h⟩
theorem qR{P:Program}{L n:Nat}{ops:Array Oper}{md:Region.Mode}{S:World->Prop}{Q:Exit->Act->World->Prop}(hd:∀ (i:Nat) (o:Oper),ops[i]? = some o->∀c,o.op ≠ .defer c)(hno:¬LetsOut Q) :
  ∀ (fuel:Nat) (listed:Array Bool) (a:Act) (w:World),wpAnyH P md ops Q S fuel listed a w->wpAnyIn (Fence.wide.inRound L) n P md ops Q fuel listed a w
 | 0,_,_,_,h=>h
 | fuel+1,listed,a,w,h=>⟨h.1,λi hi=>Ch hd hno (λa' w' h'=>qR hd hno fuel _ a' w' h'.2) (h.2 i hi)⟩
def vK(ops:Array Oper):Bool:=ops.all (λo=>match o.op with | .defer _=>false|_=>true)
theorem rY{ops:Array Oper}(h:vK ops=true):∀ (i:Nat) (o:Oper),ops[i]? = some o->∀c,o.op ≠ .defer c:=by
 intro i o ho c hc
 obtain⟨hi,e⟩:=ay.1 ho
 have:=(Array.all_eq_true.1 h) i hi
 rw[e,hc] at this
 cases this
theorem EF{P:Program}{L n id:Nat}{ops:Array Oper}{S:World->Prop}{Q:Exit->Act->World->Prop}{a:Act}{w:World}(hm:P.follows .mixedOrders=true)(hd:vK ops=true)(hno:¬LetsOut Q)(h:wpAnyH P .any ops Q S ops.size (aH ops.size false) a w.drew):(Code.region id ops true).wpIn (Fence.wide.inRound L) n P Q a w:=
 wpIn_region_any hm (qR (rY hd) hno _ _ _ _ h)
section
variable {n:Nat} {P:Program} {ops:Array Oper} {Q:Exit->Act->World->Prop} {md:Region.Mode} {S:World->Prop} {z:Nat}
theorem vD(o:Oper)(a:Act):o.semAt Fence.wide.round a.eval=execOp a.eval o:=rfl
theorem Ih{j:Nat}{oi oj:Oper}{v:Value}(hj:ops[j]? = some oj)(hap:oi.apart ops oj=true)(hsi:∀cs b,oi.op ≠ .select cs b)(hsj:∀cs b,oj.op ≠ .select cs b)
  (hQ:∀c a w,Q (.panic c) (a.put oi.dst v) w->Q (.panic c) a w) {K:Act->World->Prop} {a:Act} {w:World} (hy:YieldsIf P ops S oi v a) (h:wpOpIn Fence.wide n P ops Q j K (a.put oi.dst v) w) :
  wpOpIn Fence.wide n P ops Q j (λa' w'=>YieldsIf P ops S oi v a'/\K (a'.put oi.dst v) w') a w:=by
 obtain⟨p1,p2,p3⟩:=Oper.apart_spec hap
 have stay:∀ (b:Act) u,YieldsIf P ops S oi v b->YieldsIf P ops S oi v (b.put oj.dst u):=λb u hb=>hb.of_same (execOp_put oi hsi b oj.dst u p3) (wanted_put oi b oj.dst u p3)
 have both:∀u w',K ((a.put oi.dst v).put oj.dst u) w'->YieldsIf P ops S oi v (a.put oj.dst u)/\K ((a.put oj.dst u).put oi.dst v) w':=λu w' hk=>⟨stay a u hy,by rw[<- Act.put_comm a v u p2];exact hk⟩
 unfold wpOpIn at *
 rw[hj] at h ⊢
 simp only at h ⊢
 rw[wanted_put oj a oi.dst v p1] at h
 by_cases hw:Region.wanted oj (yielded ops a.tmps)=true
 ·rw[if_pos hw] at h ⊢
  unfold Oper.wpIn at *
  refine⟨λ_ _=>trivial,?_⟩
  have h:=h.2
  rw[vD,execOp_put oj hsj a oi.dst v p1] at h
  rw[vD]
  generalize (execOp a.eval oj).run P w=r at *
  cases r with
  | halt x w'=>cases x <;> first|exact hQ _ _ _ h|exact h
  | ok x w'=>
   cases x with
   | value u=>exact both u w' h
   | skip=>exact both _ w' h
   | defer d=>
    refine⟨stay _ _ (hy.of_same rfl rfl),?_⟩
    rw[<- Act.put_comm _ v undef p2,<- Act.put_defers]
    exact h
   | enter f args=>
    refine⟨h.1,CallsIn.mono h.2 (λe w2 he=>?_)⟩
    cases e with
    | returned u=>exact both u w2 he
    | panicked c=>exact hQ _ _ _ he
    | outgrown=>exact he
   | row row args=>exact⟨h.1,RowsIn.mono h.2 (λu w2 he=>both u w2 he)⟩
   | round l f tmps assign body=>
    refine⟨h.1,RoundIn.mono h.2 (λe w2 he=>?_)⟩
    cases e with
    | returned u=>exact both u w2 he
    | panicked c=>exact hQ _ _ _ he
    | outgrown=>exact he
   | _=>exact h
 ·rw[if_neg hw] at h ⊢
  exact⟨λ_ _=>trivial,both _ _ h.2⟩
theorem Db{i:Nat}{oi:Oper}{v:Value}{a:Act}{w:World}(hi:ops[i]? = some oi)(hy:YieldsIf P ops S oi v a)(hS:S w){K:Act->World->Prop}(h:K (a.put oi.dst v) w):wpOpIn Fence.wide n P ops Q i K a w:=by
 unfold wpOpIn
 rw[hi]
 rcases hy with⟨hw,hv⟩|⟨hw,rfl⟩
 ·simp only[hw,if_true,Oper.wpIn,vD,hv w hS]
  exact⟨λ_ _=>trivial,h⟩
 ·simp only[hw,Bool.false_eq_true,if_false]
  exact⟨λ_ _=>trivial,h⟩
def uF(n:Nat)(P:Program)(md:Region.Mode)(ops:Array Oper)(Q:Exit->Act->World->Prop)(S:World->Prop)(z:Nat):Nat->Array Bool->Act->World->Prop
 | 0,l,a,w=>Region.ready md ops l=[]/\Q .normal a w
 | k+1,l,a,w=>(Region.ready md ops l=[]->Q .normal a w)/\∀i ∈ Region.ready md ops l,wpOpIn Fence.wide n P ops Q i (λa' w'=>(i=z\/S w')/\uF n P md ops Q S z k (l.setIfInBounds i true) a' w') a w
theorem Az:∀ (k:Nat) (l:Array Bool) (a:Act) (w:World),uF n P md ops Q S z k l a w->wpAnyIn Fence.wide n P md ops Q k l a w
 | 0,_,_,_,h=>h
 | k+1,_,_,_,h=>⟨h.1,λi hi=>wpOpIn_mono (λa' w' h'=>Az k _ a' w' h'.2) (h.2 i hi)⟩
def waitsFor(md:Region.Mode)(ops:Array Oper)(z i:Nat):Bool:=match ops[z]? with|some o=>o.after.any (λe=>Region.binds md e&&e.on==i)|none=>true
theorem KA{i:Nat}{l:Array Bool}(h:waitsFor md ops z i=true)(hz:z ∈ Region.ready md ops l)(hi:i ∈ Region.ready md ops l):False:=by
 obtain⟨_,o,ho,hall⟩:=mem_ready.1 hz
 unfold waitsFor at h
 rw[ho] at h
 simp only at h
 rw[Array.any_eq_true'] at h
 obtain⟨x,hx,hb⟩:=h
 rw[aY] at hb
 have y1:=hall x hx hb.1
 have y0:=(mem_ready.1 hi).1
 have e:x.on=i:=by simpa using hb.2
 rw[e] at y1
 rcases Nat.lt_or_ge i l.size with q|q
 ·simp[q] at y0 y1;rw[y0] at y1;cases y1
 ·simp[aL q] at y1
theorem FZ{i:Nat}{oi:Oper}{v:Value}(hi:ops[i]? = some oi)(hsel:∀ (j:Nat) (o:Oper) cs b,ops[j]? = some o->o.op ≠ .select cs b)(hQ:∀c a w,Q (.panic c) (a.put oi.dst v) w->Q (.panic c) a w)(hwz:waitsFor md ops z i=true)(k:Nat) :
  ∀ (l:Array Bool) (a:Act) (w:World),(∀j oj,ops[j]? = some oj->j≠i->l.getD j true=false->(∀e ∈ oj.after,Region.binds md e=true->e.on≠i)->oi.apart ops oj=true)->i ∈ Region.ready md ops l->YieldsIf P ops S oi v a->S w->uF n P md ops Q S z k (l.setIfInBounds i true) (a.put oi.dst v) w->uF n P md ops Q S z (k+1) l a w:=by
 induction k with
 | zero=>
  intro l a w _ hr hy hS H
  refine⟨λh=>absurd hr (by rw[h];simp),λj hj=>?_⟩
  by_cases e:j=i
  ·subst e;exact Db hi hy hS ⟨.inr hS,H⟩
  ·exact absurd (ready_mono hj e) (by rw[H.1];simp)
 | succ k ih=>
  intro l a w hfree hr hy hS H
  refine⟨λh=>absurd hr (by rw[h];simp),λj hj=>?_⟩
  by_cases e:j=i
  ·subst e;exact Db hi hy hS ⟨.inr hS,H⟩
  ·have hjz:j≠z:=λe2=>KA hwz (e2 ▸ hj) hr
   obtain⟨hjun,oj,hoj,hall⟩:=mem_ready.1 hj
   have hno:∀e ∈ oj.after,Region.binds md e=true->e.on≠i:=by
    intro x hx hb hxi
    have y1:=hall x hx hb
    have y0:=(mem_ready.1 hr).1
    rw[hxi] at y1
    rcases Nat.lt_or_ge i l.size with q|q
    ·simp[q] at y0 y1;rw[y0] at y1;cases y1
    ·simp[aL q] at y1
   refine wpOpIn_mono ?_ (Ih hoj (hfree j oj hoj e hjun hno) (λcs b=>hsel i oi cs b hi) (λcs b=>hsel j oj cs b hoj) hQ hy (H.2 j (ready_mono hj e)))
   rintro a' w' ⟨y1,y2,y3⟩
   have y2':S w':=y2.resolve_left hjz
   refine⟨.inr y2',ih (l.setIfInBounds j true) a' w' ?_ (ready_mono hr (Ne.symm e)) y1 y2' ?_⟩
   ·intro t ot ht hti hun hno'
    refine hfree t ot ht hti ?_ hno'
    by_cases q:j=t
    ·subst q;exact hjun
    ·rw[getD_set_ne true q] at hun;exact hun
   ·rw[Array.setIfInBounds_comm _ _ e];exact y3
theorem Jh{i:Nat}{oi:Oper}{v:Value}{k:Nat}{l:Array Bool}{a:Act}{w:World}(hi:ops[i]? = some oi)(hs:Region.noSelect ops=true)(hf:Region.free md ops l i=true)(hr:(Region.ready md ops l).contains i=true)(hwz:waitsFor md ops z i=true)
  (hQ:∀c a w,Q (.panic c) (a.put oi.dst v) w->Q (.panic c) a w) (hy:YieldsIf P ops S oi v a) (hS:S w) (h:uF n P md ops Q S z k (l.setIfInBounds i true) (a.put oi.dst v) w):uF n P md ops Q S z (k+1) l a w:=
 FZ hi (Region.noSelect_spec hs) hQ hwz k l a w (Region.free_spec hi hf) (by simpa using hr) hy hS h
theorem aD{i:Nat}{o:Oper}{k:Nat}{l:Array Bool}{a:Act}{w:World}(hr:Region.ready md ops l=[i])(ho:ops[i]? = some o)(hw:Region.wanted o (yielded ops a.tmps)=true)(h:∀K:Act->World->Prop,(∀a' w',(i=z\/S w')->uF n P md ops Q S z k (l.setIfInBounds i true) a' w'->K a' w')->o.wpIn Fence.wide n P a w K Q):uF n P md ops Q S z (k+1) l a w:=by
 refine⟨λh0=>absurd (hr.symm.trans h0) (by simp),λj hj=>?_⟩
 rw[hr] at hj
 simp at hj
 subst hj
 unfold wpOpIn
 rw[ho]
 simp only[hw,if_true]
 exact h _ (λa' w' h1 h2=>⟨h1,h2⟩)
theorem bQ{l:Array Bool}{a:Act}{w:World}(hr:Region.ready md ops l=[])(h:Q .normal a w):∀k,uF n P md ops Q S z k l a w
 | 0=>⟨hr,h⟩
 | _+1=>⟨λ_=>h,by rw[hr];simp⟩
theorem bM{id:Nat}{a:Act}{w:World}(hm:P.follows .mixedOrders=true)(h:uF 9 P .any ops Q S z ops.size (aH ops.size false) a w.drew):(Code.region id ops true).wp P Q a w:=
 (wpIn_wide (n:=9)).1 (wpIn_region_any hm (Az _ _ _ _ h))
theorem aB{o:Oper}{a:Act}{w:World}{K:Act->World->Prop}(hd:∀c,o.op ≠ .defer c)(h:o.wp P a w K Q):o.wpIn Fence.wide n P a w K Q:=by
 refine⟨λ_ _=>trivial,?_⟩
 rw[vD]
 unfold Oper.wp at h
 generalize (execOp a.eval o).run P w=r at *
 cases r with
 | ok x w'=>
  cases x with
  | value v=>exact h
  | skip=>exact h
  | defer d=>exact h
  | enter f args=>exact⟨λe=>by simp[Fence.wide] at e,callsIn_wide.2 h⟩
  | row row args=>
   refine⟨λe=>by simp[Fence.wide] at e,?_⟩
   intro c cs _
   obtain⟨v,w'',hr,hs⟩:=h c cs
   exact⟨v,w'',hr,stepsIn_wide.2 hs⟩
  | round l f tmps assign body=>exact h.elim
  | _=>exact h.elim
 | halt x w'=>cases x <;> first|exact h|exact h.elim
end
theorem EY{P:Program}{L n:Nat}{ops:Array Oper}{i:Nat}{a:Act}{w:World}{K K':Act->World->Prop}{Q:Exit->Act->World->Prop}(hd:∀ (i:Nat) (o:Oper),ops[i]? = some o->∀c,o.op ≠ .defer c)(hK:∀a w,K a w->K' a w)(h:wpOpIn Fence.wide n P ops Q i K a w):wpOpIn (Fence.wide.inRound L) n P ops Q i K' a w:=by
 have h:=wpOpIn_mono hK h
 clear hK
 unfold wpOpIn at *
 cases ho:ops[i]? with
 | none=>rw[ho] at h;exact h
 | some o=>
  rw[ho] at h
  simp only at h ⊢
  split
  ·rename_i hw
   rw[if_pos hw] at h
   unfold Oper.wpIn at *
   refine⟨λ_ _=>trivial,?_⟩
   have h:=h.2
   rw[Oper.semAt_eq _ _ _ (hd i o ho)] at h ⊢
   generalize (execOp a.eval o).run P w=r at *
   cases r with
   | ok x w'=>
    cases x with
    | value v=>exact h
    | skip=>exact h
    | defer d=>exact h
    | enter f args=>exact⟨λe=>by simp[Fence.wide,Fence.inRound] at e,h.2⟩
    | row row args=>exact⟨λe=>by simp[Fence.wide,Fence.inRound] at e,h.2⟩
    | round l f tmps assign body=>exact⟨λe=>by simp[Fence.wide,Fence.inRound] at e,h.2⟩
    | _=>exact h.elim
   | halt x w'=>cases x <;> first|exact h|exact h.elim
  ·rename_i hw
   rw[if_neg hw] at h
   exact⟨λ_ _=>trivial,h.2⟩
theorem uW{P:Program}{L n:Nat}{ops:Array Oper}{md:Region.Mode}{Q:Exit->Act->World->Prop}(hd:∀ (i:Nat) (o:Oper),ops[i]? = some o->∀c,o.op ≠ .defer c) :
  ∀ (fuel:Nat) (listed:Array Bool) (a:Act) (w:World),wpAnyIn Fence.wide n P md ops Q fuel listed a w->wpAnyIn (Fence.wide.inRound L) n P md ops Q fuel listed a w
 | 0,_,_,_,h=>h
 | fuel+1,_,_,_,h=>⟨h.1,λi hi=>EY hd (λa' w' h'=>uW hd fuel _ a' w' h') (h.2 i hi)⟩
theorem Hw{P:Program}{L n id:Nat}{ops:Array Oper}{Q:Exit->Act->World->Prop}{a:Act}{w:World}(hm:P.follows .mixedOrders=true)(hd:vK ops=true)(h:wpAnyIn Fence.wide n P .any ops Q ops.size (aH ops.size false) a w.drew):(Code.region id ops true).wpIn (Fence.wide.inRound L) n P Q a w:=
 wpIn_region_any hm (uW (rY hd) _ _ _ _ h)
section
variable {n:Nat} {P:Program} {ops:Array Oper} {Q:Exit->Act->World->Prop} {md:Region.Mode} {S:World->Prop} {z:Nat}
theorem EG{L id:Nat}{a:Act}{w:World}(hm:P.follows .mixedOrders=true)(hd:vK ops=true)(h:uF n P .any ops Q S z ops.size (aH ops.size false) a w.drew):(Code.region id ops true).wpIn (Fence.wide.inRound L) n P Q a w:=
 Hw hm hd (Az _ _ _ _ h)
end
def pick:Nat->Nat->List Bool->List Oper->Option (Nat × Oper)
 | _,_,[],_=>none
 | _,_,_::_,[]=>none
 | s+1,i,_::l,_::o=>pick s (i+1) l o
 | 0,i,true::l,_::o=>pick 0 (i+1) l o
 | 0,i,false::_,o::_=>some (i,o)
theorem AO:∀ (s i:Nat) (l:List Bool) (o:List Oper) {j:Nat} {x:Oper},pick s i l o=some (j,x)->∃k,j=i+k/\o[k]? = some x
 | _,_,[],_,_,_,h=>by simp[pick] at h
 | _,_,_::_,[],_,_,h=>by simp[pick] at h
 | s+1,i,_::l,_::o,j,x,h=>by
  obtain⟨k,e,g⟩:=AO s (i+1) l o (by simpa [pick] using h)
  exact⟨k+1,by omega,by simpa using g⟩
 | 0,i,true::l,_::o,j,x,h=>by
  obtain⟨k,e,g⟩:=AO 0 (i+1) l o (by simpa [pick] using h)
  exact⟨k+1,by omega,by simpa using g⟩
 | 0,i,false::_,o::_,j,x,h=>by
  simp only[pick,Option.some.injEq,Prod.mk.injEq] at h
  exact⟨0,by omega,by simp[h.2]⟩
theorem Cb{s:Nat}{l:Array Bool}{ops:Array Oper}{i:Nat}{oi:Oper}(h:pick s 0 l.toList ops.toList=some (i,oi)):ops[i]? = some oi:=by
 obtain⟨k,e,g⟩:=AO _ _ _ _ h
 rw[Nat.zero_add] at e
 rw[e,<- Array.getElem?_toList]
 exact g
section
variable {n:Nat} {P:Program} {ops:Array Oper} {Q:Exit->Act->World->Prop} {md:Region.Mode} {S:World->Prop} {z:Nat}
theorem nL(s:Nat){i:Nat}{oi:Oper}(v:Value){k:Nat}{l:Array Bool}{a:Act}{w:World}(hi:pick s 0 l.toList ops.toList=some (i,oi))(hb:(Region.noSelect ops&&(Region.free md ops l i&&((Region.ready md ops l).contains i&&waitsFor md ops z i)))=true)
  (hQ:∀c a w,Q (.panic c) (a.put oi.dst v) w->Q (.panic c) a w) (hy:YieldsIf P ops S oi v a) (hS:S w) (h:uF n P md ops Q S z k (l.setIfInBounds i true) (a.put oi.dst v) w):uF n P md ops Q S z (k+1) l a w:=by
 simp only[aY] at hb
 exact Jh (Cb hi) hb.1 hb.2.1 hb.2.2.1 hb.2.2.2 hQ hy hS h
theorem nH(s:Nat){i:Nat}{oi:Oper}(v:Value){k:Nat}{l:Array Bool}{a:Act}{w:World}(hi:pick s 0 l.toList ops.toList=some (i,oi))(hb:(Region.noSelect ops&&(Region.free md ops l i&&(Region.ready md ops l).contains i))=true)
  (hQ:∀c a w,Q (.panic c) (a.put oi.dst v) w->Q (.panic c) a w) (hy:YieldsIf P ops S oi v a) (hS:S w) (h:wpAnyH P md ops Q S k (l.setIfInBounds i true) (a.put oi.dst v) w):wpAnyH P md ops Q S (k+1) l a w:=by
 simp only[aY] at hb
 exact wpAnyH_take (Cb hi) hb.1 hb.2.1 hb.2.2 hQ hy hS h
end
end Go.Proofs.YtgchnkgolclmgaaGreatDoor.W.It

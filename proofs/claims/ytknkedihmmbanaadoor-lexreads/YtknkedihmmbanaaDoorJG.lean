import Derived.Test.YtknkedihmmbanaaDoorProg
import Derived.Below
import Derived.BigQuiet
import Derived.Deep.QuietTactic
import Derived.KernelRfl
import Derived.Laws.BitsAllLaws
import Derived.Laws.OwnMore
import Derived.LoopIn
import Derived.LoopNIn
import Derived.OwnWalkIn
import Derived.RangeFuncBound
import Derived.RangeFuncCalls
import Derived.RangeFuncLeaves
import Derived.RangeFuncNested
import Derived.Shelf.Abstract
import Derived.Shelf.RegionOpen
import Derived.TacticsInMore
import Derived.WalkKit
import Derived.WalkLawsBesides
import Derived.Deep.RegionHeld3
import Derived.Deep.Quiet
open Array renaming getElem?_eq_some_iff → z0z
open Go.World renaming putObj_heap_other → z1z, alloc_heap_new → z2z
set_option maxRecDepth 1000000
set_option maxHeartbeats 8000000
namespace Go.Proofs.YtknkedihmmbanaaDoor.W.It
open Go.ChangeShapes Go.WideShapes Go.RowKit Go.Shelf
set_option linter.unusedVariables false
structure Upd (S:Nat->Prop) (W W':World):Prop where
 os:W'.os=W.os
 tape:W'.tape=W.tape
 output:W'.output=W.output
 size:W.heap.size<=W'.heap.size
 block:∀k,k<W.heap.size->¬S k->W'.heap[k]? = W.heap[k]?
def Nx(S:Nat->Prop)(W W':World):Nat->Prop:=λk=>S k\/(W.heap.size<=k/\k<W'.heap.size)
theorem Nx.on{S:Nat->Prop}{a b c:World}{k:Nat}(h:Nx S a b k)(hs:b.heap.size<=c.heap.size):Nx S a c k:=h.imp id (λg=>⟨g.1,Nat.lt_of_lt_of_le g.2 hs⟩)
theorem Upd.refl(S:Nat->Prop)(W:World):Upd S W W:=⟨rfl,rfl,rfl,Nat.le_refl _,λ_ _ _=>rfl⟩
theorem Upd.trans{S:Nat->Prop}{a b c:World}(h:Upd S a b)(k:Upd (Nx S a b) b c):Upd S a c:=
 ⟨k.os.trans h.os,k.tape.trans h.tape,k.output.trans h.output,Nat.le_trans h.size k.size,λi hi hn=>(k.block i (Nat.lt_of_lt_of_le hi h.size) (λg=>g.elim hn (λg=>by omega))).trans (h.block i hi hn)⟩
theorem Upd.mono{S T:Nat->Prop}{a b:World}(h:Upd S a b)(hs:∀k,S k->T k):Upd T a b:=⟨h.os,h.tape,h.output,h.size,λk hk hn=>h.block k hk (λg=>hn (hs k g))⟩
theorem Upd.trans'{S:Nat->Prop}{a b c:World}(h:Upd S a b)(k:Upd S b c):Upd S a c:=h.trans (k.mono λ_ g=>.inl g)
theorem Upd.below{S:Nat->Prop}{a b:World}(h:Upd S a b){n:Nat}(hn:n<=a.heap.size)(hs:∀k,S k->n<=k):Below n a b:=
 ⟨h.os,h.tape,h.output,h.size,λk hk=>h.block k (by omega) (λg=>by have:=hs k g;omega)⟩
theorem Upd.of_below{S:Nat->Prop}{a b:World}(h:Below a.heap.size a b):Upd S a b:=⟨h.os,h.tape,h.output,h.size,λk hk _=>h.block k hk⟩
theorem Upd.drew{S:Nat->Prop}{a b:World}(h:Upd S a b):Upd S a b.drew:=⟨h.os,h.tape,h.output,h.size,h.block⟩
theorem Upd.alloc{S:Nat->Prop}{a b:World}(h:Upd S a b)(o:Obj):Upd S a (b.alloc o):=
 h.trans' ⟨rfl,rfl,rfl,by simp,λk hk _=>Below.heap_alloc _ _ _ hk⟩
theorem Upd.setCell{S:Nat->Prop}{a b:World}(h:Upd S a b){p:Addr}(hp:Nx S a b p.block)(u:Value):Upd S a (b.setCell p u):=
 h.trans ⟨rfl,rfl,rfl,by simp[World.setCell],λk _ hn=>Below.heap_setCell _ _ _ _ (by rintro rfl;exact hn hp)⟩
theorem Upd.grown{S:Nat->Prop}{a b c:World}{row:Option Nat}(h:Upd S a b)(hg:b.grownBy c row)(hr:∀k,row=some k->Nx S a b k):Upd S a c:=
 h.trans ⟨hg.os,hg.tape,hg.output,hg.size,λk hk hn=>hg.block k hk (by rintro e;exact hn (hr k e.symm))⟩
structure LoopAt (W:World) (L D:Nat) (r:Loop):Prop where
 lp:W.heap[L]? = some (.loop r)
 defs:W.heap[D]? = some (.deferred (some []))
theorem LoopAt.kept{W W':World}{L D:Nat}{r:Loop}(h:LoopAt W L D r)(h1:W'.heap[L]? = W.heap[L]?)(h2:W'.heap[D]? = W.heap[D]?):LoopAt W' L D r:=⟨h1.trans h.lp,h2.trans h.defs⟩
theorem LoopAt.put{W:World}{L D:Nat}{r:Loop}(h:LoopAt W L D r)(q:Loop):LoopAt (W.putObj L (.loop q)) L D q:=by
 refine⟨World.putObj_heap_same (z0z.1 h.lp).1,?_⟩
 rw[z1z (by rintro rfl;have:=h.lp;rw[h.defs] at this;cases this)]
 exact h.defs
theorem Upd.putObj{S:Nat->Prop}{a b:World}(h:Upd S a b){L:Nat}(hp:Nx S a b L)(o:Obj):Upd S a (b.putObj L o):=
 h.trans ⟨rfl,rfl,rfl,by simp,λk _ hn=>z1z (by rintro rfl;exact hn hp)⟩
def bodyWay(L D:Nat)(r:Loop)(Rn:World->Prop)(Rx:Code->World->Prop):Exit->Act->World->Prop
 | .normal,_,W=>LoopAt W L D { r with state:=.busy }/\Rn (W.putObj L (.loop { r with state:=.ready,pending:=none }))
 | .ret,_,W=>LoopAt W L D { r with state:=.busy }/\Rx .ret (W.putObj L (.loop { r with state:=.done,pending:=some .ret }))
 | .exit id,_,W=>LoopAt W L D { r with state:=.busy }/\Rx (.exit id) (W.putObj L (.loop { r with state:=.done,pending:=some (.exit id) }))
 | _,_,_=>False
theorem rf_law{P:Program}{n:Nat}{g:Operand}{ps:Array Tmp}{assign body:Code}{Q:Exit->Act->World->Prop}{a:Act}{w:World}{gf:Nat}{lb:Array Value}(hg:a.eval g=.func (.func gf) #[] lb)(eg:∀args w,(callFunc gf args).run P w=.ok (.enter gf args) w)
  (Dn:World->Prop) (Sp:Code->World->Prop)
  (hcall:∀ (r:Loop) (W1:World),r.state=.ready->r.pending=none->r.tmps=a.tmps->r.params=ps->r.assign=assign->r.body=body->W1=(w.alloc (.deferred (some []))).alloc (.loop r)->LoopAt W1 (w.heap.size+1) w.heap.size r ->
   CallsIn Fence.wide (n-1) P gf (#[.func (.yield (w.heap.size+1)) #[] #[]]++lb) W1 λe W3=>(∃v,e=.returned v)/\((Dn W3/\∃q:Loop,LoopAt W3 (w.heap.size+1) w.heap.size q/\q.state ≠ .busy/\q.pending=none)\/(∃c,Sp c W3/\∃q:Loop,LoopAt W3 (w.heap.size+1) w.heap.size q/\q.state ≠ .busy/\q.pending=some c)))
  (hdone:∀ (W3:World) (q:Loop),Dn W3->LoopAt (W3.putObj (w.heap.size+1) (.loop q)) (w.heap.size+1) w.heap.size q->Q .normal { a with defers:={ target:=.collected w.heap.size,args:=#[] }::a.defers } (W3.putObj (w.heap.size+1) (.loop q)))
  (hstop:∀ (W3:World) (q:Loop) (c:Code),Sp c W3->LoopAt (W3.putObj (w.heap.size+1) (.loop q)) (w.heap.size+1) w.heap.size q->c.wpIn Fence.wide n P Q { a with defers:={ target:=.collected w.heap.size,args:=#[] }::a.defers } (W3.putObj (w.heap.size+1) (.loop q))) :
  (Code.rangeFunc g ps assign body).wpIn Fence.wide n P Q a w:=by
 refine wpIn_rangeFunc ?_
 intro fn hfn
 obtain⟨r,hr⟩:∃r:Loop,r={ state:=.ready,pending:=none,fn,tmps:=a.tmps,params:=ps,assign,body,defers:=w.heap.size }:=⟨_,rfl⟩
 obtain⟨W1,hW1⟩:∃W1,W1=(w.alloc (.deferred (some []))).alloc (.loop r):=⟨_,rfl⟩
 have hL1:W1.heap[w.heap.size+1]? = some (.loop r):=by
  rw[hW1];have:=z2z (w.alloc (.deferred (some []))) (.loop r);rwa [World.size_alloc] at this
 have hK1:W1.heap[w.heap.size]? = some (.deferred (some [])):=by
  rw[hW1];exact(Below.heap_alloc _ _ _ (by simp)).trans (z2z w _)
 refine⟨w.heap.size+1,[{ target:=.collected w.heap.size,args:=#[] }],W1,{ target:=.fn (.func gf) lb,args:=#[.func (.yield (w.heap.size+1)) #[] #[]] },W1,gf,#[.func (.yield (w.heap.size+1)) #[] #[]]++lb,W1,?_,?_,?_,?_,λh=>by simp[Fence.wide] at h,?_⟩
 ·rw[hW1,hr];exact run_enterLoop_outer _ _ _ _ _
 ·simp only[resolve,hg]
  simp[go_sem]
 ·intro f' hf';trivial
 ·simp[invoke,go_sem,eg]
 ·refine(hcall r W1 (by rw[hr]) (by rw[hr]) (by rw[hr]) (by rw[hr]) (by rw[hr]) (by rw[hr]) hW1 ⟨hL1,hK1⟩).mono ?_
  rintro e W3 ⟨⟨v,rfl⟩,⟨hd,q,hq,hs,hp⟩|⟨c,hd,q,hq,hs,hp⟩⟩
  ·refine⟨none,_,by rw[<- hp];exact run_endLoop hq.lp hs,?_⟩
   exact hdone W3 _ hd (hq.put _)
  ·refine⟨some c,_,by rw[<- hp];exact run_endLoop hq.lp hs,?_⟩
   exact hstop W3 _ c hd (hq.put _)
theorem upd_put{W:World}{S:Nat->Prop}{L:Nat}(hL:S L)(o:Obj):Upd S W (W.putObj L o):=(Upd.refl S W).putObj (.inl hL) o
theorem below_cell{W W':World}{p:Addr}{v:Value}(hb:Below W.heap.size W W')(h:W.cell? p=some v):W'.cell? p=some v:=by
 rcases Nat.lt_or_ge p.block W.heap.size with c|c
 ·rw[hb.cell c];exact h
 ·exfalso
  have e:W.heap[p.block]? = none:=Array.getElem?_eq_none c
  simp[World.cell?,e] at h
theorem opIn_of_wp{P:Program}{L n:Nat}{o:Oper}{a:Act}{w:World}{K K':Act->World->Prop}{Q:Exit->Act->World->Prop}(hd:∀c,o.op ≠ .defer c)(hK:∀a w,K a w->K' a w)(h:o.wp P a w K Q):o.wpIn (Fence.wide.inRound L) n P a w K' Q:=by
 refine⟨λ_ _=>trivial,?_⟩
 rw[Oper.semAt_eq _ _ _ hd]
 unfold Oper.wp at h
 generalize (execOp a.eval o).run P w=r at *
 cases r with
 | ok x w'=>
  cases x with
  | value v=>exact hK _ _ h
  | skip=>exact hK _ _ h
  | defer d=>exact hK _ _ h
  | enter f args=>
   refine⟨λe=>by simp[Fence.wide,Fence.inRound] at e,?_⟩
   refine CallsIn.inRound L (callsIn_wide.2 (Calls.mono h ?_))
   intro e w'' he
   cases e with
   | returned v=>exact hK _ _ he
   | panicked ch=>exact he
   | outgrown=>exact he
  | row row args=>
   refine⟨λe=>by simp[Fence.wide,Fence.inRound] at e,?_⟩
   intro c cs _
   obtain⟨v,w'',hr,hs⟩:=h c cs
   exact⟨v,w'',hK _ _ hr,stepsIn_wide.2 hs⟩
  | round l f tmps assign body=>exact h.elim
  | _=>exact h.elim
 | halt x w'=>cases x <;> first|exact h|exact h.elim
theorem opsIn_of_wp{P:Program}{L n:Nat}{ops:Array Oper}{i:Nat}{a:Act}{w:World}{K K':Act->World->Prop}{Q:Exit->Act->World->Prop}(hd:∀ (i:Nat) (o:Oper),ops[i]? = some o->∀c,o.op ≠ .defer c)(hno:¬LetsOut Q)(hK:∀a w,K a w->K' a w)(h:wpOp P ops Q i K a w):wpOpIn (Fence.wide.inRound L) n P ops Q i K' a w:=by
 unfold wpOp at h
 unfold wpOpIn
 cases ho:ops[i]? with
 | none=>rw[ho] at h;exact hK _ _ h
 | some o=>
  rw[ho] at h
  simp only at h ⊢
  split
  ·rename_i hw
   rw[if_pos hw] at h
   rcases h with h|h
   ·exact opIn_of_wp (hd i o ho) hK h
   ·exact absurd h.2 hno
  ·rename_i hw
   rw[if_neg hw] at h
   exact⟨λ_ _=>trivial,hK _ _ h⟩
theorem anyIn_of_held{P:Program}{L n:Nat}{ops:Array Oper}{md:Region.Mode}{S:World->Prop}{Q:Exit->Act->World->Prop}(hd:∀ (i:Nat) (o:Oper),ops[i]? = some o->∀c,o.op ≠ .defer c)(hno:¬LetsOut Q) :
  ∀ (fuel:Nat) (listed:Array Bool) (a:Act) (w:World),wpAnyH P md ops Q S fuel listed a w->wpAnyIn (Fence.wide.inRound L) n P md ops Q fuel listed a w
 | 0,_,_,_,h=>h
 | fuel+1,listed,a,w,h=>⟨h.1,λi hi=>opsIn_of_wp hd hno (λa' w' h'=>anyIn_of_held hd hno fuel _ a' w' h'.2) (h.2 i hi)⟩
def noDefer(ops:Array Oper):Bool:=ops.all (λo=>match o.op with | .defer _=>false|_=>true)
theorem noDefer_spec{ops:Array Oper}(h:noDefer ops=true):∀ (i:Nat) (o:Oper),ops[i]? = some o->∀c,o.op ≠ .defer c:=by
 intro i o ho c hc
 obtain⟨hi,e⟩:=z0z.1 ho
 have:=(Array.all_eq_true.1 h) i hi
 rw[e,hc] at this
 cases this
theorem round_held{P:Program}{L n id:Nat}{ops:Array Oper}{S:World->Prop}{Q:Exit->Act->World->Prop}{a:Act}{w:World}(hm:P.follows .mixedOrders=true)(hd:noDefer ops=true)(hno:¬LetsOut Q)(h:wpAnyH P .any ops Q S ops.size (Array.replicate ops.size false) a w.drew):(Code.region id ops true).wpIn (Fence.wide.inRound L) n P Q a w:=
 wpIn_region_any hm (anyIn_of_held (noDefer_spec hd) hno _ _ _ _ h)
end Go.Proofs.YtknkedihmmbanaaDoor.W.It

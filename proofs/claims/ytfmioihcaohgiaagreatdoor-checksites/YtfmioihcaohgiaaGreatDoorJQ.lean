import Derived.Test.YtfmioihcaohgiaaGreatDoorJP
import Derived.Laws.ResultCell
open Array renaming getElem?_eq_some_iff → z1z
open Go.World renaming putObj_heap_other → z0z
open Go.Proofs.Tryz
set_option maxRecDepth 1000000
set_option maxHeartbeats 8000000
namespace Go.Proofs.YtfmioihcaohgiaaGreatDoor.W
open Go.ChangeShapes Go.WideShapes Go.RowKit Go.Shelf
set_option linter.unusedVariables false
def rndWayD(L D:Nat)(Dk:Nat→Prop)(W:World)(In:World→Prop)(Ix:Code→World→Prop):Exit→Act→World→Prop
 | .normal,_,W'=>(W'.heap[L]? = W.heap[L]? ∧ W'.heap[D]? = W.heap[D]?)∧(∀k,k<W.heap.size→¬Dk k→W'.heap[k]? = W.heap[k]?)∧In W'
 | .ret,_,W'=>(W'.heap[L]? = W.heap[L]? ∧ W'.heap[D]? = W.heap[D]?)∧Ix .ret W'
 | .exit id,_,W'=>(W'.heap[L]? = W.heap[L]? ∧ W'.heap[D]? = W.heap[D]?)∧Ix (.exit id) W'
 | _,_,_=>False
theorem iterD_law{gf:Nat}{lb:Array Value}{vals:List (Array Value)}{G:World→Prop}(hit:IterD gf lb vals G)(eg:∀args w,(callFunc gf args).run prog w=.ok (.enter gf args) w)
  {g:Operand} {ps:Array Tmp} {assign body:Code} {Q:Exit→Act→World→Prop} {a:Act} {W0:World} (hg:a.eval g=.func (.func gf) #[] lb)
  (I:Nat→(Nat→Prop)→World→Prop) (Ix:Code→World→Prop) (hL:∀i D W,I i D W→G W∧∀k,D k→k<W.heap.size)
  (hI:∀i D W W',I i D W→It.Upd (fun k=>k=W0.heap.size+1) W W'→I i D W')
  (hIx:∀c W W',Ix c W→It.Upd (fun k=>k=W0.heap.size+1) W W'→Ix c W') (D0:Nat→Prop) (h0:I 0 D0 W0)
  (A:Nat→Act) (hsz:∀i (hi:i<vals.length),vals[i].size=ps.size)
  (hassign:∀ (L i:Nat) (hi:i<vals.length) (W:World) (K:Act→World→Prop),K (A i) W→assign.wpIn (Fence.wide.inRound L) 7 prog (Exit.then K (fun _ _ _=>False)) { tmps:=(ps.zip vals[i]).foldl (fun t (p,v)=>t.setIfInBounds p v) a.tmps,defers:=[] } W)
  (hbody:∀ (L:Nat) i (hi:i<vals.length) D W,L=W0.heap.size+1→I i D W→W0.heap.size+2≤W.heap.size→(∃r,W.heap[L]? = some (.loop r))→body.wpIn (Fence.wide.inRound L) 7 prog (rndWayD L W0.heap.size D W (fun W'=>∃D',I (i+1) D' W') Ix) (A i) W)
  (hdone:∀D W,I vals.length D W→W.heap[W0.heap.size]? = some (.deferred (some []))→Q .normal { a with defers:={ target:=.collected W0.heap.size,args:=#[] }::a.defers } W)
  (hstop:∀c W,Ix c W→W.heap[W0.heap.size]? = some (.deferred (some []))→c.wp prog Q { a with defers:={ target:=.collected W0.heap.size,args:=#[] }::a.defers } W) :
  (Code.rangeFunc g ps assign body).wp prog Q a W0:=by
 have hUL:∀ (W:World) (o:Obj),It.Upd (fun k=>k=W0.heap.size+1) W (W.putObj (W0.heap.size+1) o):=fun W o=>It.upd_put (S:=fun k=>k=W0.heap.size+1) (L:=W0.heap.size+1) rfl o
 refine(wpIn_wide (n:=9)).1 (It.rf_law hg eg (fun W=>∃D,I vals.length D W) Ix ?_ ?_ ?_)
 ·intro r W1 hr1 hr2 hr3 hr4 hr5 hr6 hW1 hL1
  have hI1:I 0 D0 W1:=by
   refine hI 0 D0 W0 W1 h0 ?_
   rw[hW1];exact((It.Upd.refl _ W0).alloc _).alloc _
  have hsz1:W0.heap.size+2≤W1.heap.size:=by rw[hW1];simp
  have key:=hit 8 (W0.heap.size+1)
   (fun i D W=>I i D W∧It.LoopAt W (W0.heap.size+1) W0.heap.size r∧W0.heap.size+2≤W.heap.size)
   (fun W=>∃c,Ix c W∧It.LoopAt W (W0.heap.size+1) W0.heap.size { r with state:=.done,pending:=some c })
   (by omega) (fun i D W h=>hL i D W h.1) ?_ ?_ D0 W1 ⟨hI1,hL1,hsz1⟩
  ·refine key.mono ?_
   rintro e W3 ⟨hv,⟨D',h1,h2,_⟩|⟨c,h1,h2⟩⟩
   ·exact⟨hv,.inl ⟨⟨D',h1⟩,r,h2,by rw[hr1];simp,hr2⟩⟩
   ·exact⟨hv,.inr ⟨c,h1,_,h2,by simp,rfl⟩⟩
  ·rintro i D W W' ⟨h1,h2,h3⟩ hb
   exact⟨hI i D W W' h1 (It.Upd.of_below hb),h2.kept (hb.block _ (by omega)) (hb.block _ (by omega)),by have:=hb.size;omega⟩
  ·rintro i hi D W ⟨hi1,hl1,hs1⟩
   have hargs:vals[i].size=r.params.size:=by rw[hr4];exact hsz i hi
   refine YieldAt.mono (It.yield_law (Rn:=fun W'=>(∃D',I (i+1) D' W'∧It.LoopAt W' (W0.heap.size+1) W0.heap.size r∧W0.heap.size+2≤W'.heap.size)∧(∀k,k<W.heap.size→¬D k→W'.heap[k]? = W.heap[k]?)) (Rx:=fun c W'=>Ix c W'∧It.LoopAt W' (W0.heap.size+1) W0.heap.size { r with state:=.done,pending:=some c }) hl1 hr1 hargs (A i) ?_ ?_) ?_
   ·intro K hK
    rw[hr5,hr4,hr3]
    exact hassign _ i hi W K hK
   ·intro W2 hW2 hl2
    have hI2:I i D W2:=by rw[hW2];exact hI i D W _ hi1 (hUL W _)
    have hs2:W0.heap.size+2≤W2.heap.size:=by rw[hW2];simpa using hs1
    have hbd:=hbody _ i hi D W2 rfl hI2 hs2 ⟨_,hl2.lp⟩
    rw[← hr6] at hbd
    refine wpIn_mono hbd ?_
    intro e a3 W3 hp
    have put:∀q:Loop,(W3.heap[W0.heap.size+1]? = W2.heap[W0.heap.size+1]? ∧ W3.heap[W0.heap.size]? = W2.heap[W0.heap.size]?)→It.LoopAt W3 (W0.heap.size+1) W0.heap.size { r with state:=.busy }∧It.LoopAt (W3.putObj (W0.heap.size+1) (.loop q)) (W0.heap.size+1) W0.heap.size q∧W0.heap.size+2≤(W3.putObj (W0.heap.size+1) (.loop q)).heap.size:=by
     rintro q ⟨e1,e2⟩
     have hl3:=hl2.kept e1 e2
     refine⟨hl3,hl3.put q,?_⟩
     have:=(z1z.1 hl3.lp).1
     simp;omega
    cases e with
    | normal=>
     obtain⟨hk,hkp,D',hin⟩:=hp
     obtain⟨p1,p2,p4⟩:=put { r with state:=.ready,pending:=none } hk
     have er:({ r with state:=.ready,pending:=none }:Loop)=r:=by cases r;simp_all
     refine⟨p1,⟨D',hI _ D' W3 _ hin (hUL W3 _),?_,p4⟩,?_⟩
     ·rw[er] at p2 ⊢
      exact p2
     ·intro k hk1 hk2
      by_cases ck:k=W0.heap.size+1
      ·subst ck
       rw[er] at p2 ⊢
       rw[p2.lp,hl1.lp]
      ·rw[z0z ck,hkp k (by rw[hW2];simpa using hk1) hk2,hW2,z0z ck]
    | ret=>
     obtain⟨hk,hin⟩:=hp
     obtain⟨p1,p2,p4⟩:=put { r with state:=.done,pending:=some .ret } hk
     exact⟨p1,hIx _ W3 _ hin (hUL W3 _),p2⟩
    | exit id=>
     obtain⟨hk,hin⟩:=hp
     obtain⟨p1,p2,p4⟩:=put { r with state:=.done,pending:=some (.exit id) } hk
     exact⟨p1,hIx _ W3 _ hin (hUL W3 _),p2⟩
    | goto t=>exact hp.elim
    | panic ch=>exact hp.elim
    | outgrown=>exact hp.elim
   ·rintro e W' (⟨rfl,h1⟩|⟨rfl,c,h1⟩)
    ·exact .inl ⟨rfl,h1.1,h1.2⟩
    ·exact .inr ⟨rfl,c,h1⟩
 ·intro W3 q hd hl
  obtain⟨D',hd'⟩:=hd
  exact hdone D' _ (hI _ D' W3 _ hd' (hUL W3 _)) hl.defs
 ·intro W3 q c hs hl
  exact wpIn_wide.2 (hstop c _ (hIx _ W3 _ hs (hUL W3 _)) hl.defs)
theorem toks_bigD(s:ByteArray)(hs:s.size≤1000000)(sb:Nat)(big:65536<s.size):IterD 60 #[.pointer (some ⟨sb,0,none⟩)] (valsP s.data.toList) (fun W=>W.cell? ⟨sb,0,none⟩=some (.string s)∧Tabs W∧MarksIn W):=by
 intro n l J X hn hL hB hY D0 W h0
 have ev:valsP s.data.toList=[yv noTk 0 2 0]:=if_pos (by rw[size_list];exact big)
 rw[ev] at hY ⊢
 show CallsIn Fence.wide n prog 60 #[.func (.yield l) #[] #[],.pointer (some ⟨sb,0,none⟩)] W fun e W'=>(∃v,e=.returned v)∧((∃D',J 1 D' W')∨X W')
 obtain⟨⟨g0,-,-⟩,-⟩:=hL 0 D0 W h0
 have b1:(s.size:Int)>65536:=by omega
 have y1:=hY 0 (by simp) D0 W h0
 have y2:YieldAt Fence.wide (n-1) prog l #[.agg #[.int .i64 0,.int .i64 0,.string ⟨#[]⟩,.int .i64 0,.int .u64 0],.agg #[.int .i64 2,.int .i64 0]] W fun e W'=>(e=.returned (.bool true)∧(∃D',J 1 D' W')∧(∀k,k<W.heap.size→¬D0 k→W'.heap[k]? = W.heap[k]?))∨(e=.returned (.bool false)∧X W'):=y1
 obtain⟨fn,tmps,assign,body,hy,hR⟩:=y2
 refine callsIn_of_wp func60 rfl trivial ?_ rfl
 simp only[ntmps60,List.size_toArray,List.length_cons,List.length_nil,Nat.reduceAdd,Nat.reduceSub,Array.replicate_succ,Array.replicate_zero,List.push_toArray,List.append_toArray,List.nil_append,List.cons_append]
 clear hY hL hB y1 ev
 refine wpIn_wide.2 ?_
 refine wp_scope_straight ?_
 go_upto_region 1 with fail
 refine(wpIn_wide (n:=n)).1 ?_
 gi_wp2
 refine hR.mono ?_
 rintro e W3 (⟨rfl,hK3,-⟩|⟨rfl,hX3⟩)
 ·gi_wp2
  go_wp2
  refine(show ∀ {Q:Exit→Act→World→Prop} {a:Act} {w:World},Q .ret a w→Exit.noGoto Q .ret a w from fun h=>by first|exact h|exact⟨h,trivial⟩|(unfold Exit.noGoto;exact h)|simpa [Exit.noGoto] using h) ?_
  refine bodyPost_ret (results_none rfl _ _ _) rfl ?_
  exact⟨⟨_,rfl⟩,.inl hK3⟩
 ·gi_wp2
  go_wp2
  refine(show ∀ {Q:Exit→Act→World→Prop} {a:Act} {w:World},Q .ret a w→Exit.noGoto Q .ret a w from fun h=>by first|exact h|exact⟨h,trivial⟩|(unfold Exit.noGoto;exact h)|simpa [Exit.noGoto] using h) ?_
  refine bodyPost_ret (results_none rfl _ _ _) rfl ?_
  exact⟨⟨_,rfl⟩,.inr hX3⟩
theorem toks_iter(s:ByteArray)(hs:s.size≤1000000)(sb:Nat):IterD 60 #[.pointer (some ⟨sb,0,none⟩)] (valsP s.data.toList) (fun W=>W.cell? ⟨sb,0,none⟩=some (.string s)∧Tabs W∧MarksIn W):=by
 by_cases big:65536<s.size
 ·exact toks_bigD s hs sb big
 ·exact toks_in s (by omega) sb
theorem yield_lawA{P:Program}{m L D:Nat}{r:Loop}{args:Array Value}{W:World}{Rn:World→Prop}{Rx:Code→World→Prop}(hl:It.LoopAt W L D r)(hr:r.state=.ready)(hs:args.size=r.params.size)(a1:Act)(W1:World)(hl1:It.LoopAt W1 L D r)
  (hassign:∀K:Act→World→Prop,K a1 W1→r.assign.wpIn (Fence.wide.inRound L) m P (Exit.then K (fun _ _ _=>False)) { tmps:=(r.params.zip args).foldl (fun t (p,v)=>t.setIfInBounds p v) r.tmps,defers:=[] } W)
  (hbody:∀W2,W2=W1.putObj L (.loop { r with state:=.busy })→It.LoopAt W2 L D { r with state:=.busy }→r.body.wpIn (Fence.wide.inRound L) m P (It.bodyWay L D r Rn Rx) a1 W2) :
  YieldAt Fence.wide m P L args W (fun e W'=>(e=.returned (.bool true)∧Rn W')∨(e=.returned (.bool false)∧∃c,Rx c W')):=by
 have hy:=run_yield (P:=P) (args:=args) hl.lp hs
 refine⟨r.fn,_,r.assign,r.body,hy,roundIn_of_wpIn (F:=Fence.wide) trivial (hassign _ ⟨_,run_beginRound hl1.lp hr,?_⟩)⟩
 refine wpIn_mono (hbody _ rfl (hl1.put _)) ?_
 rintro e a3 W3 hp
 cases e with
 | normal=>
  obtain⟨h3,h4⟩:=hp
  exact⟨_,_,run_endRound none h3.lp,.inl ⟨rfl,h4⟩⟩
 | ret=>
  obtain⟨h3,h4⟩:=hp
  exact⟨_,_,run_endRound (some .ret) h3.lp,.inr ⟨rfl,_,h4⟩⟩
 | exit id=>
  obtain⟨h3,h4⟩:=hp
  exact⟨_,_,run_endRound (some (.exit id)) h3.lp,.inr ⟨rfl,_,h4⟩⟩
 | goto t=>exact hp.elim
 | panic ch=>exact hp.elim
 | outgrown=>exact hp.elim
theorem iterD_lawA{gf:Nat}{lb:Array Value}{vals:List (Array Value)}{G:World→Prop}(hit:IterD gf lb vals G)(eg:∀args w,(callFunc gf args).run prog w=.ok (.enter gf args) w)
  {g:Operand} {ps:Array Tmp} {assign body:Code} {Q:Exit→Act→World→Prop} {a:Act} {W0:World} (hg:a.eval g=.func (.func gf) #[] lb)
  (I:Nat→(Nat→Prop)→World→Prop) (Ix:Code→World→Prop) (hL:∀i D W,I i D W→G W∧∀k,D k→k<W.heap.size)
  (hI:∀i D W W',I i D W→It.Upd (fun k=>k=W0.heap.size+1) W W'→I i D W')
  (hIx:∀c W W',Ix c W→It.Upd (fun k=>k=W0.heap.size+1) W W'→Ix c W') (D0:Nat→Prop) (h0:I 0 D0 W0)
  (A:Nat→World→Act) (N:Nat→World→World) (hN:∀i W,Below W.heap.size W (N i W)) (hsz:∀i (hi:i<vals.length),vals[i].size=ps.size)
  (hassign:∀ (L i:Nat) (hi:i<vals.length) (W:World) (K:Act→World→Prop),K (A i W) (N i W)→assign.wpIn (Fence.wide.inRound L) 7 prog (Exit.then K (fun _ _ _=>False)) { tmps:=(ps.zip vals[i]).foldl (fun t (p,v)=>t.setIfInBounds p v) a.tmps,defers:=[] } W)
  (hbody:∀ (L:Nat) i (hi:i<vals.length) D W (o:Obj),L=W0.heap.size+1→I i D W→W0.heap.size+2≤W.heap.size→body.wpIn (Fence.wide.inRound L) 7 prog (rndWayD L W0.heap.size D ((N i W).putObj L o) (fun W'=>∃D',I (i+1) D' W') Ix) (A i W) ((N i W).putObj L o))
  (hdone:∀D W,I vals.length D W→W.heap[W0.heap.size]? = some (.deferred (some []))→Q .normal { a with defers:={ target:=.collected W0.heap.size,args:=#[] }::a.defers } W)
  (hstop:∀c W,Ix c W→W.heap[W0.heap.size]? = some (.deferred (some []))→c.wp prog Q { a with defers:={ target:=.collected W0.heap.size,args:=#[] }::a.defers } W) :
  (Code.rangeFunc g ps assign body).wp prog Q a W0:=by
 have hUL:∀ (W:World) (o:Obj),It.Upd (fun k=>k=W0.heap.size+1) W (W.putObj (W0.heap.size+1) o):=fun W o=>It.upd_put (S:=fun k=>k=W0.heap.size+1) (L:=W0.heap.size+1) rfl o
 refine(wpIn_wide (n:=9)).1 (It.rf_law hg eg (fun W=>∃D,I vals.length D W) Ix ?_ ?_ ?_)
 ·intro r W1 hr1 hr2 hr3 hr4 hr5 hr6 hW1 hL1
  have hI1:I 0 D0 W1:=by
   refine hI 0 D0 W0 W1 h0 ?_
   rw[hW1];exact((It.Upd.refl _ W0).alloc _).alloc _
  have hsz1:W0.heap.size+2≤W1.heap.size:=by rw[hW1];simp
  have key:=hit 8 (W0.heap.size+1)
   (fun i D W=>I i D W∧It.LoopAt W (W0.heap.size+1) W0.heap.size r∧W0.heap.size+2≤W.heap.size)
   (fun W=>∃c,Ix c W∧It.LoopAt W (W0.heap.size+1) W0.heap.size { r with state:=.done,pending:=some c })
   (by omega) (fun i D W h=>hL i D W h.1) ?_ ?_ D0 W1 ⟨hI1,hL1,hsz1⟩
  ·refine key.mono ?_
   rintro e W3 ⟨hv,⟨D',h1,h2,_⟩|⟨c,h1,h2⟩⟩
   ·exact⟨hv,.inl ⟨⟨D',h1⟩,r,h2,by rw[hr1];simp,hr2⟩⟩
   ·exact⟨hv,.inr ⟨c,h1,_,h2,by simp,rfl⟩⟩
  ·rintro i D W W' ⟨h1,h2,h3⟩ hb
   exact⟨hI i D W W' h1 (It.Upd.of_below hb),h2.kept (hb.block _ (by omega)) (hb.block _ (by omega)),by have:=hb.size;omega⟩
  ·rintro i hi D W ⟨hi1,hl1,hs1⟩
   have hargs:vals[i].size=r.params.size:=by rw[hr4];exact hsz i hi
   refine YieldAt.mono (yield_lawA (Rn:=fun W'=>(∃D',I (i+1) D' W'∧It.LoopAt W' (W0.heap.size+1) W0.heap.size r∧W0.heap.size+2≤W'.heap.size)∧(∀k,k<W.heap.size→¬D k→W'.heap[k]? = W.heap[k]?)) (Rx:=fun c W'=>Ix c W'∧It.LoopAt W' (W0.heap.size+1) W0.heap.size { r with state:=.done,pending:=some c }) hl1 hr1 hargs (A i W) (N i W) (hl1.kept ((hN i W).block _ (by omega)) ((hN i W).block _ (by omega))) ?_ ?_) ?_
   ·intro K hK
    rw[hr5,hr4,hr3]
    exact hassign _ i hi W K hK
   ·intro W2 hW2 hl2
    have hbd:=hbody _ i hi D W (.loop { r with state:=.busy }) rfl hi1 hs1
    rw[← hW2] at hbd
    rw[← hr6] at hbd
    refine wpIn_mono hbd ?_
    intro e a3 W3 hp
    have put:∀q:Loop,(W3.heap[W0.heap.size+1]? = W2.heap[W0.heap.size+1]? ∧ W3.heap[W0.heap.size]? = W2.heap[W0.heap.size]?)→It.LoopAt W3 (W0.heap.size+1) W0.heap.size { r with state:=.busy }∧It.LoopAt (W3.putObj (W0.heap.size+1) (.loop q)) (W0.heap.size+1) W0.heap.size q∧W0.heap.size+2≤(W3.putObj (W0.heap.size+1) (.loop q)).heap.size:=by
     rintro q ⟨e1,e2⟩
     have hl3:=hl2.kept e1 e2
     refine⟨hl3,hl3.put q,?_⟩
     have:=(z1z.1 hl3.lp).1
     simp;omega
    cases e with
    | normal=>
     obtain⟨hk,hkp,D',hin⟩:=hp
     obtain⟨p1,p2,p4⟩:=put { r with state:=.ready,pending:=none } hk
     have er:({ r with state:=.ready,pending:=none }:Loop)=r:=by cases r;simp_all
     refine⟨p1,⟨D',hI _ D' W3 _ hin (hUL W3 _),?_,p4⟩,?_⟩
     ·rw[er] at p2 ⊢
      exact p2
     ·intro k hk1 hk2
      by_cases ck:k=W0.heap.size+1
      ·subst ck
       rw[er] at p2 ⊢
       rw[p2.lp,hl1.lp]
      ·rw[z0z ck,hkp k (by rw[hW2];have:=(hN i W).size;simp;omega) hk2,hW2,z0z ck,(hN i W).block k hk1]
    | ret=>
     obtain⟨hk,hin⟩:=hp
     obtain⟨p1,p2,p4⟩:=put { r with state:=.done,pending:=some .ret } hk
     exact⟨p1,hIx _ W3 _ hin (hUL W3 _),p2⟩
    | exit id=>
     obtain⟨hk,hin⟩:=hp
     obtain⟨p1,p2,p4⟩:=put { r with state:=.done,pending:=some (.exit id) } hk
     exact⟨p1,hIx _ W3 _ hin (hUL W3 _),p2⟩
    | goto t=>exact hp.elim
    | panic ch=>exact hp.elim
    | outgrown=>exact hp.elim
   ·rintro e W' (⟨rfl,h1⟩|⟨rfl,c,h1⟩)
    ·exact .inl ⟨rfl,h1.1,h1.2⟩
    ·exact .inr ⟨rfl,c,h1⟩
 ·intro W3 q hd hl
  obtain⟨D',hd'⟩:=hd
  exact hdone D' _ (hI _ D' W3 _ hd' (hUL W3 _)) hl.defs
 ·intro W3 q c hs hl
  exact wpIn_wide.2 (hstop c _ (hIx _ W3 _ hs (hUL W3 _)) hl.defs)
theorem ftT:∃d,prog.underlying 26=some d∧(match d with | .struct _ | .array _ _=>true|_=>false)=true:=by
 have h:(prog.underlying 26).map (fun d=>match d with | .struct _ | .array _ _=>true|_=>false)=some true:=by kernel_rfl
 cases hu:prog.underlying 26 with
 | none=>rw[hu] at h;cases h
 | some d=>rw[hu] at h;injection h with h;exact⟨d,rfl,h⟩
theorem ftSz:(prog.info? 26).map (·.size)=some 2:=by kernel_rfl
theorem rowT:prog.underlying 55=some (.slice 74):=by kernel_rfl
theorem load_slice(w:World)(b:Nat)(v:Value)(h:w.cell? ⟨b,0,none⟩=some v):(loadVar 55 ⟨b,0,none⟩).run prog w=.ok v w:=by
 simp[loadVar,isAgg,run_underlying rowT,h,go_sem]
theorem all_ret{fn:Func}{p q:Tmp}(h:fn.results = #[.cell p 55,.cell q 26])(tmps:Array Value)(w:World)(b2 b3:Nat)(v c a:Value)(fr fr':Nat × Nat)(t2:TypeId)(hp:tmps.getD p undef=.pointer (some ⟨b2,0,none⟩))(hq:tmps.getD q undef=.pointer (some ⟨b3,0,none⟩))(hg:w.heap[b2]? = some (.cells #[v] t2 fr))(hg3:w.heap[b3]? = some (.cells #[c,a] 26 fr')):(results fn tmps).run prog w=.ok (.tuple #[v,.agg #[c,a]]) w:=by
 obtain⟨d,hu,hd⟩:=ftT
 have hl:=run_loadVar_row (P:=prog) w b3 26 26 #[c,a] fr' d hg3 hu (by cases d <;> first|rfl|exact hd) (by rw[ftSz];rfl)
 have hl2:=load_slice w b2 v (cell_of_row w b2 0 _ _ _ hg)
 have hp':tmps[p]?.getD undef=.pointer (some ⟨b2,0,none⟩):=by simpa using hp
 have hq':tmps[q]?.getD undef=.pointer (some ⟨b3,0,none⟩):=by simpa using hq
 simp[results,h,hp',hq',asAddr,hl,hl2]
end Go.Proofs.YtfmioihcaohgiaaGreatDoor.W

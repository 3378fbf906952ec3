import Derived.Test.YtgchnkgolclmgaaGreatDoorTriJ
import Derived.Test.YtgchnkgolclmgaaGreatDoorJR
import Derived.Sort.Grow
import Derived.Deep.QuietTactic
import Derived.BigQuiet
open List renaming mem_cons_self → bO
open Nat renaming le_refl → aH
open Go.World renaming alloc_heap_new → aL
open Go.RowKit.Below renaming refl → aY
open Go.Lib renaming wpList_append_run → ay
open Go.Proofs.Tryz
set_option maxRecDepth 1000000
set_option maxHeartbeats 8000000
namespace Go.Proofs.YtgchnkgolclmgaaGreatDoor.W.Tr
open Go.ChangeShapes Go.WideShapes Go.RowKit Go.Shelf
set_option linter.unusedVariables false
set_option linter.unusedSimpArgs false
section
variable {W0 W w':World} {cb:Nat} {Ys:List Yd} {v:Value} {s s':Cs} {f:jv} {y:Yd} {L:List (Nat × Fo)} {M:List (Nat × Yd)}
theorem El(W:World)(cb:Nat)(Ys:List Yd)(y:Yd)(i n:Nat)(v:Value)(R:Bool)(cl:∀w1,Below W.heap.size W w1->Calls prog 29 #[ptr cb] w1 λe w'=>e=.returned (tv y.t y.a)/\Below w1.heap.size w1 w')
  (hc0:∀p:BW W,p.w'.cell? ⟨cb,0,none⟩=some v/\p.w'.cell? ⟨cb,3,none⟩=some (.int .i64 (i:Nat))) (hi:i<=1000002)
  (hR:(¬y.t.kind=1/\R=false)\/(y.t.kind=1/\(∃o c,v=.slice o n c)/\¬ (i:Int)+1<n/\R=false)\/(y.t.kind=1/\(i:Int)+1<n/\∃g c z,v=.slice (some ⟨g,0,none⟩) n c/\n<=c/\R=((aG z.t).toList==[58])/\∀p:BW W,∀j,j<5->p.w'.cell? ⟨g,(i+1)*5+j,none⟩=(dA z)[j]?)) :
  Calls prog 120 #[ptr cb] W λe w'=>e=.returned (.bool R)/\Below W.heap.size W w':=by
 have tf:=KP
 unfold tv at cl
 have inst:Nonempty (BW W):=⟨⟨_,aY _ _⟩⟩
 have cl':=λ(p:BW W)=>BW.calls (cl p.w' p.h)
 clear cl
 rcases hR with⟨h1,rfl⟩|⟨h1,⟨o,c,rfl⟩,h2,rfl⟩|⟨h1,h2,g,c,z,rfl,hnc,hRz,hz⟩
 ·have e1:(y.t.kind==1)=false:=by simp[h1]
  clear h1 hc0
  go_enter func120,ntmps120
  go_wp2
  refine wp_region_quiet_below (by kernel_rfl) (by kernel_rfl) ?_
  repeat (go_big_quiet_step ((go_at_call 29;exact cl' _)))
  refine wpQuiet_nil ?_
  rintro w' ⟨p,rfl⟩
  go_wp2
  go_ret
  exact⟨rfl,p.h⟩
 ·have e1:(y.t.kind==1)=true:=by simp[h1]
  have wk:IntKind.i64.wrap ((i:Int)+1)=(i:Int)+1:=by rw[IntKind.wrap_i64];omega
  have q0:=λp:BW W=>(hc0 p).1
  have q3:=λp:BW W=>(hc0 p).2
  have h2':decide ((i:Int)+1<(n:Int))=false:=decide_eq_false h2
  have h3:¬i+1<n:=by omega
  clear h1 hc0
  go_enter func120,ntmps120
  go_wp2
  refine wp_region_quiet_below (by kernel_rfl) (by kernel_rfl) ?_
  repeat (go_big_quiet_step ((go_at_call 29;exact cl' _)))
  refine wpQuiet_nil ?_
  rintro w' ⟨p,rfl⟩
  go_wp2
  go_ret
  exact⟨rfl,p.h⟩
 ·have e1:(y.t.kind==1)=true:=by simp[h1]
  have wk:IntKind.i64.wrap ((i:Int)+1)=(i:Int)+1:=by rw[IntKind.wrap_i64];omega
  have kt:((i:Int)+1).toNat=i+1:=by omega
  have kp:(0:Int)<=(i:Int)+1:=by omega
  have cf:=kI z.t z.a
  unfold tv at cf
  have cf':=λ(p:BW W)=>BW.calls (cf p.w')
  have q0:=λp:BW W=>(hc0 p).1
  have q3:=λp:BW W=>(hc0 p).2
  have d0:∀p:BW W,p.w'.cell? ⟨g,(i+1)*5,none⟩=some (.int .i64 z.t.kind):=λp=>hz p 0 (by omega)
  have d1:∀p:BW W,p.w'.cell? ⟨g,(i+1)*5+1,none⟩=some (.int .i64 z.a):=λp=>hz p 1 (by omega)
  have d2:∀p:BW W,p.w'.cell? ⟨g,(i+1)*5+2,none⟩=some (.string z.t.text):=λp=>hz p 2 (by omega)
  have d3:∀p:BW W,p.w'.cell? ⟨g,(i+1)*5+3,none⟩=some (.int .i64 z.t.int):=λp=>hz p 3 (by omega)
  have d4:∀p:BW W,p.w'.cell? ⟨g,(i+1)*5+4,none⟩=some (.int .u64 z.t.bits):=λp=>hz p 4 (by omega)
  have HR:=hid hRz
  clear h1 hc0 hz hRz cf
  cases hb:((aG z.t).toList==[58])
  all_goals (
   go_enter func120,ntmps120
   go_wp2
   refine wp_region_quiet_below (by kernel_rfl) (by kernel_rfl) ?_
   repeat (go_big_quiet_step (first|(go_at_call 29;exact cl' _)|(go_at_call 49;exact cf' _)))
   refine wpQuiet_nil ?_
   rintro w' ⟨p,rfl⟩
   go_wp2
   go_ret
   exact⟨by rw[HR.out,hb];rfl,p.h⟩)
theorem Cu.Ua{i:Nat}{t:jv}(h:Cu W cb Ys s i v t)(k:Nat)(hk:k<(good Ys).length):∃g c,v=.slice (some ⟨g,0,none⟩) (good Ys).length c/\(good Ys).length<=c/\g<W.heap.size/\∀j,j<5->W.cell? ⟨g,k*5+j,none⟩=(dA (good Ys)[k])[j]?:=by
 rcases h.row.2 with⟨_,e0⟩|⟨g,c,cur,rfl,h2,h3,h4,h5,h6,h7⟩
 ·omega
 ·refine⟨g,c,rfl,h4,(Array.getElem?_eq_some_iff.1 h3).1,λj hj=>?_⟩
  rw[cell_of_row _ g _ _ _ _ h3,<- Bu _ k j hk hj,<- h7,List.getElem?_take,if_pos (by omega),Array.getElem?_toList]
theorem Sx.label(h:Sx W0 W cb Ys v s L M)(hy:Tr.look s=.ok y):Calls prog 120 #[ptr cb] W λe w'=>e=.returned (.bool (decide (y.t.kind=1/\colon s=true)))/\Sx W0 w' cb Ys v s L M:=by
 obtain⟨i,t,c⟩:=h.cx.cv
 obtain⟨hi,hg⟩:=c.next hy
 have hlen:=c.len
 have hlt:=c.lt
 have hdr:s.r=(good Ys)[i]::Ys.drop (i+1):=by
  rw[c.at',List.drop_eq_getElem_cons (Nat.lt_of_lt_of_le hi (Ga Ys)),(show good Ys <+: Ys from List.takeWhile_prefix _).getElem hi]
 refine(El W cb Ys y i (good Ys).length v _ (λw1 hB=>look_ok (h.below hB).cx.cur hy) (λp=>⟨(p.h.cell (p:=⟨cb,0,none⟩) hlt).trans (aA c.top 0),(p.h.cell (p:=⟨cb,3,none⟩) hlt).trans (aA c.top 3)⟩) (by omega) ?_).mono λe w' he=>⟨he.1,h.below he.2⟩
 by_cases hk:y.t.kind=1
 ·by_cases hn:i+1<(good Ys).length
  ·obtain⟨g,cc,hv,h4,h5,h6⟩:=c.Ua (i+1) hn
   obtain⟨l,h7,h8⟩:=DJ Ys (i+1) hn
   refine .inr (.inr ⟨hk,by omega,g,cc,(good Ys)[i+1],hv,h4,?_,λp j hj=>(p.h.cell (p:=⟨g,(i+1)*5+j,none⟩) h5).trans (h6 j hj)⟩)
   rw[<- kE]
   unfold colon
   rw[hdr,h7]
   simp[hk,h8]
  ·refine .inr (.inl ⟨hk,aI c.row,by omega,?_⟩)
   have hc:colon s=false:=by
    unfold colon
    rw[hdr]
    have e:i+1=(good Ys).length:=by omega
    rw[e]
    cases hd:Ys.drop (good Ys).length with
    | nil=>rfl
    | cons z l=>simp[oM Ys z l hd]
   simp[hc]
 ·exact .inl ⟨hk,by simp[hk]⟩
end
theorem Bo(n:Nat)(cl:fZ 113 .lt n)(ci:fZ 114 .iF n)(cw:fZ 115 .wh n)(cf:fZ 116 .fr n)(cj:xZ 117 (.int .i64 13) (.jm 13) n)(ck:xZ 117 (.int .i64 14) (.jm 14) n)(cr:fZ 118 .rt n)(co:fZ 119 .ou n)(xJ:fZ 121 .lb n)(cp:fZ 122 .pl n):fZ 83 .st (n+1):=by
 intro W cb Ys v s r hC hP
 have hx:=Sx.start hC
 clear hC
 simp only[P] at hP
 rcases bU hP with⟨f,h1,rfl⟩|⟨y1,h1,hP⟩
 rotate_left
 by_cases g0:aG y1.t=fU
 rw[if_pos g0] at hP
 have e0:((aG y1.t).toList==[108,101,116])=true:=by rw[<- kE];exact decide_eq_true g0
 clear g0
 have hT:=hP
 rcases r with f|⟨fo,s1⟩
 rotate_left
 rotate_left
 rw[if_neg g0] at hP
 have e0:((aG y1.t).toList==[108,101,116])=false:=by rw[<- kE];exact decide_eq_false g0
 clear g0
 by_cases g1:aG y1.t=jV
 rw[if_pos g1] at hP
 have e1:((aG y1.t).toList==[105,102])=true:=by rw[<- kE];exact decide_eq_true g1
 clear g1
 have hT:=hP
 rcases r with f|⟨fo,s1⟩
 rotate_left
 rotate_left
 rw[if_neg g1] at hP
 have e1:((aG y1.t).toList==[105,102])=false:=by rw[<- kE];exact decide_eq_false g1
 clear g1
 by_cases g2:aG y1.t=dU
 rw[if_pos g2] at hP
 have e2:((aG y1.t).toList==[119,104,105,108,101])=true:=by rw[<- kE];exact decide_eq_true g2
 clear g2
 have hT:=hP
 rcases r with f|⟨fo,s1⟩
 rotate_left
 rotate_left
 rw[if_neg g2] at hP
 have e2:((aG y1.t).toList==[119,104,105,108,101])=false:=by rw[<- kE];exact decide_eq_false g2
 clear g2
 by_cases g3:aG y1.t=dZ
 rw[if_pos g3] at hP
 have e3:((aG y1.t).toList==[102,111,114])=true:=by rw[<- kE];exact decide_eq_true g3
 clear g3
 have hT:=hP
 rcases r with f|⟨fo,s1⟩
 rotate_left
 rotate_left
 rw[if_neg g3] at hP
 have e3:((aG y1.t).toList==[102,111,114])=false:=by rw[<- kE];exact decide_eq_false g3
 clear g3
 by_cases g4:aG y1.t=jH
 rw[if_pos g4] at hP
 have e4:((aG y1.t).toList==[98,114,101,97,107])=true:=by rw[<- kE];exact decide_eq_true g4
 clear g4
 have hT:=hP
 rcases r with f|⟨fo,s1⟩
 rotate_left
 rotate_left
 rw[if_neg g4] at hP
 have e4:((aG y1.t).toList==[98,114,101,97,107])=false:=by rw[<- kE];exact decide_eq_false g4
 clear g4
 by_cases g5:aG y1.t=fD
 rw[if_pos g5] at hP
 have e5:((aG y1.t).toList==[99,111,110,116,105,110,117,101])=true:=by rw[<- kE];exact decide_eq_true g5
 clear g5
 have hT:=hP
 rcases r with f|⟨fo,s1⟩
 rotate_left
 rotate_left
 rw[if_neg g5] at hP
 have e5:((aG y1.t).toList==[99,111,110,116,105,110,117,101])=false:=by rw[<- kE];exact decide_eq_false g5
 clear g5
 by_cases g6:aG y1.t=gD
 rw[if_pos g6] at hP
 have e6:((aG y1.t).toList==[114,101,116,117,114,110])=true:=by rw[<- kE];exact decide_eq_true g6
 clear g6
 have hT:=hP
 rcases r with f|⟨fo,s1⟩
 rotate_left
 rotate_left
 rw[if_neg g6] at hP
 have e6:((aG y1.t).toList==[114,101,116,117,114,110])=false:=by rw[<- kE];exact decide_eq_false g6
 clear g6
 by_cases g7:aG y1.t=oF
 rw[if_pos g7] at hP
 have e7:((aG y1.t).toList==[111,117,116])=true:=by rw[<- kE];exact decide_eq_true g7
 clear g7
 have hT:=hP
 rcases r with f|⟨fo,s1⟩
 rotate_left
 rotate_left
 rw[if_neg g7] at hP
 have e7:((aG y1.t).toList==[111,117,116])=false:=by rw[<- kE];exact decide_eq_false g7
 clear g7
 replace hP:(if y1.t.kind=1/\colon s=true then P n .lb else P n .pl) s=some r:=hP
 by_cases gl:y1.t.kind=1/\colon s=true
 rw[if_pos gl] at hP
 have cq:∀ (w:World),Sx W w cb Ys v s [] []->Calls prog 120 #[ptr cb] w λe w'=>e=.returned (.bool true)/\Sx W w' cb Ys v s [] []:=λw h=>by have:=h.label h1;rwa [decide_eq_true gl] at this
 clear gl
 have hT:=hP
 rcases r with f|⟨fo,s1⟩
 rotate_left
 rotate_left
 rw[if_neg gl] at hP
 have cq:∀ (w:World),Sx W w cb Ys v s [] []->Calls prog 120 #[ptr cb] w λe w'=>e=.returned (.bool false)/\Sx W w' cb Ys v s [] []:=λw h=>by have:=h.label h1;rwa [decide_eq_false gl] at this
 clear gl
 have hT:=hP
 rcases r with f|⟨fo,s1⟩
 rotate_left
 rotate_left
 all_goals (try clear hP)
 all_goals first|(guard_target =~ Calls _ _ _ _ _;go_enter func83,ntmps83)|skip
 all_goals go_wp2_with (first|((with_reducible (apply Calls.mono;first|exact Sx.zB hx h1|exact Sx.dN hx cl hT|exact Sx.dN hx ci hT|exact Sx.dN hx cw hT|exact Sx.dN hx cf hT|exact Sx.tX hx cj hT|exact Sx.tX hx ck hT|exact Sx.dN hx cr hT|exact Sx.dN hx co hT|exact Sx.dN hx xJ hT|exact Sx.dN hx cp hT));rintro e w9 ⟨he,ht,hu⟩;(unfold kC fv at he);subst he)|((with_reducible (apply Calls.mono;first|exact Sx.look hx h1|exact cq _ hx));clear hx;rintro e w2 ⟨rfl,hx⟩)|(go_at_call 49;(with_reducible refine(kI _ _ _).mono ?_);rintro e w2 ⟨rfl,b2⟩;(replace hx:=hx.below b2);clear b2)|((with_reducible (apply Calls.mono;first|exact Sx.part hx cl hT|exact Sx.part hx ci hT|exact Sx.part hx cw hT|exact Sx.part hx cf hT|exact Sx.jD hx cj hT|exact Sx.jD hx ck hT|exact Sx.part hx cr hT|exact Sx.part hx co hT|exact Sx.part hx xJ hT|exact Sx.part hx cp hT));clear hx;rintro e w2 ⟨b0,rfl,hx⟩))
 all_goals first|exact⟨rfl,rfl,ht,hu⟩|(go_ret;exact hx.res (bO ..))
structure Rw (m:Nat) (W:World) (u:Value) (bk:List Nat) (fo:Fo):Prop where
 row:W.ownsRow m 54 1 u bk.length (bk.map ptr)
 kids:bg W (λk=>m<=k/\u.ownBlock≠some k) bk fo
def aA8(W:World)(cb:Nat)(Ys:List Yd)(v:Value)(r:Rs Fo)(e:Ending)(w':World):Prop:=match r with
 | .error f=>Err W cb f e w'
 | .ok (fo,s')=>∃u bk,e=.returned u/\Cx W w' cb Ys v s'/\Rw W.heap.size w' u bk fo
def BH(g:Nat)(a:Value)(nt:Nt)(n:Nat):Prop:=∀W cb Ys v s r,Cv W cb Ys v s->P n nt s=some r->Calls prog g #[ptr cb,a] W (aA8 W cb Ys v r)
section
variable {W0 W w':World} {cb m g n:Nat} {Ys:List Yd} {v u a:Value} {s s':Cs} {f:jv} {y:Yd} {nt:Nt} {fo fx:Fo} {bk:List Nat} {L:List (Nat × Fo)} {M:List (Nat × Yd)}
theorem Rw.nil(m:Nat)(W:World):Rw m W (.slice none 0 0) [] .nil:=⟨World.ownsRow_nil _ _ _ _,rfl⟩
theorem Rw.slice(h:Rw m W u bk fo):∃o c,u=.slice o bk.length c:=aI h.row
theorem Rw.len(h:Rw m W u bk fo):bk.length=fo.len:=bg.len h.kids
theorem Rw.upd(h:Rw m W u bk fo)(hc:cb<m)(hU:It.bL (λk=>k=cb) W w'):Rw m w' u bk fo:=
 ⟨bD h.row (λk e=>hU.block k (h.row.lt k e).2 (by have:=(h.row.lt k e).1;omega)),h.kids.on (λk e hk=>hU.block k hk (by omega))⟩
theorem Rw.low{m':Nat}(h:Rw m W u bk fo)(hm:m'<=m):Rw m' W u bk fo:=
 ⟨iG h.row (λk e=>Nat.le_trans hm (h.row.lt k e).1),h.kids.mono (λk e=>⟨Nat.le_trans hm e.1,e.2⟩)⟩
theorem Sx.jq(h:Sx W0 W cb Ys v s L M)(c:BH g a nt n)(hp:P n nt s=some (.ok (fo,s'))):Calls prog g #[ptr cb,a] W λe w'=>∃u bk,e=.returned u/\Sx W0 w' cb Ys v s' L M/\It.bL (λk=>k=cb) W w'/\Rw W0.heap.size w' u bk fo:=by
 refine(c W cb Ys v s _ h.cx.cv hp).mono ?_
 rintro e w' ⟨u,bk,he,h1,h3⟩
 have h2:Cx W0 w' cb Ys v s':=⟨h1.cv,h.cx.upd.trans' h1.upd,h.cx.lt,h.cx.own⟩
 exact⟨u,bk,he,h.next h2 h1.upd,h1.upd,h3.low h.cx.upd.size⟩
theorem Sx.L8(h:Sx W0 W cb Ys v s L M)(c:BH g a nt n)(hp:P n nt s=some (.error f)):Calls prog g #[ptr cb,a] W λe w'=>Err W0 cb f e w':=
 (c W cb Ys v s _ h.cx.cv hp).mono λe w' he=>h.cx.err he
theorem Sx.sU{w2 w4:World}{x:Nat}{u':Value}(h:Sx W0 w2 cb Ys v s L M)(hU:It.bL (λk=>k=cb) W w2)(hW:W0.heap.size<=W.heap.size)(hR:Rw W0.heap.size W u bk fo)(hx:bg w2 (λk=>W.heap.size<=k) [x] fx)
  (h2:w4.ownsRow W0.heap.size 54 1 u' (bk.length+1) (bk.map ptr++[ptr x])) (h3:(w2.alloc (.cells #[ptr x] 54)).grownBy w4 u.ownBlock) (h5:u'.ownBlock=u.ownBlock\/u'.ownBlock=some (w2.alloc (.cells #[ptr x] 54)).heap.size) :
  Sx W0 w4 cb Ys v s [] []/\Rw W0.heap.size w4 u' (bk++[x]) (fo.app fx):=by
 have hR2:=hR.upd h.cx.lt hU
 have lu:∀k,u.ownBlock=some k->k<W.heap.size:=λk e=>(hR.row.lt k e).2
 have Nj:∀k,u.ownBlock=some k->W0.heap.size<=k:=λk e=>(hR.row.lt k e).1
 have z2:=hU.size
 have z3:(w2.alloc (.cells #[ptr x] 54)).heap.size=w2.heap.size+1:=World.size_alloc _ _
 have z4:=h3.size
 rw[z3] at z4 h5
 have keep:∀k,k<w2.heap.size->u.ownBlock≠some k->w4.heap[k]? = w2.heap[k]?:=by
  intro k hk hu
  rw[h3.block k (by omega) (λe=>hu e.symm),Below.heap_alloc _ _ _ hk]
 have mE:It.bL (λk=>k=cb) W0 w4:=(h.alloc (.cells #[ptr x] 54)).cx.upd.grown h3 (λk e=>.inr ⟨Nj k e,by have:=lu k e;rw[World.size_alloc];omega⟩)
 refine⟨⟨h.cx.keep (λk hk=>keep k (by have:=h.cx.upd.size;omega) (λc=>by have:=Nj k c;omega)) mE,by simp,by simp⟩,?_,?_⟩
 ·simpa using h2
 ·refine bg.app ?_ ?_
  ·refine bg.mono ?_ ((hR2.kids.lt).on (λk e hk=>keep k e.2 e.1.2))
   intro k e
   refine⟨e.1.1,?_⟩
   intro c
   rcases h5 with h5|h5
   ·exact e.1.2 (h5 ▸ c)
   ·rw[h5] at c
    have:w2.heap.size+1=k:=Option.some.inj c
    omega
  ·refine bg.mono ?_ ((hx.lt).on (λk e hk=>keep k e.2 (λc=>by have:=lu k c;omega)))
   intro k e
   refine⟨by omega,?_⟩
   intro c
   rcases h5 with h5|h5
   ·rw[h5] at c
    have:=lu k c
    omega
   ·rw[h5] at c
    have:w2.heap.size+1=k:=Option.some.inj c
    omega
theorem Sx.ofRow{o:Option Addr}{l c:Nat}(h:Sx W0 W cb Ys v s L M)(hR:Rw W0.heap.size W (.slice o l c) bk fo)(k:Int)(y:Yd):Calls prog 52 #[.int .i64 k,.agg #[.int .i64 y.t.kind,.int .i64 y.a,.string y.t.text,.int .i64 y.t.int,.int .u64 y.t.bits],.slice o l c] W λe w'=>∃b,e=.returned (ptr b)/\Sx W0 w' cb Ys v s ((b,Fo.one (jr k y) fo)::L) M/\Below W.heap.size W w':=by
 refine(Lf k y o l c W).mono ?_
 rintro e w' ⟨he,h1,h2,h3⟩
 have h4:=h.below h1
 have hz:=h.cx.upd.size
 refine⟨_,he,⟨h4.cx,?_,h4.tk⟩,h1⟩
 intro p hp
 rcases List.mem_cons.1 hp with rfl|hp
 ·have hR2:=hR.upd h.cx.lt (It.bL.of_below h1)
  refine bg.mk (by omega) h2 (iG hR2.row (λ_ _=>Nat.zero_le _)) (λk e=>⟨(hR.row.lt k e).1,by have:=(hR.row.lt k e).2;omega⟩) ?_
  exact bg.mono (λk e=>⟨e.1.1,by omega,e.1.2⟩) (hR.kids.lt.below h1)
 ·exact h4.ts p hp
end
theorem Iz(n:Nat)(cc:∀m,m<=n->fZ 148 .ex m):BH 53 (.func (.func 148) #[] #[]) (.ls false) (n+1):=by
 intro W cb Ys v s r hC hP
 have hx:=Sx.start hC
 clear hC
 simp only[P] at hP
 rcases bK hP with⟨f,h1,rfl⟩|⟨y1,h1,g1,rfl⟩|⟨y1,h1,g1,hP⟩
 rotate_left
 rotate_left
 ·have HP:=hid hP
  clear hP
  go_enter func53,ntmps53
  go_wp2_with ((go_at_call 50;(with_reducible refine(Sx.want hx h1 _ g1).mono ?_);clear hx;rintro e w2 ⟨rfl,hx⟩))
  have HX:=hid hx
  clear hx
  go_loopw [5] (λu wr=>∃bk fo s' m,Sx W wr cb Ys v s' [] []/\Rw W.heap.size wr u bk fo/\P m (.oq false fo) s'=some r/\m<=n/\fo.len+s'.r.length<=Ys.length) (λ_ wr=>Ys.length-NK wr cb)
  case atStart=>exact⟨[],.nil,_,n,HX.out,Rw.nil _ _,HP.out,aH _,by have:=HX.out.all.1;simp only[Fo.len];omega⟩
  case round=>
   obtain⟨bk,fo,s',m,hx,hR,hP,hm,hks⟩:=hrel
   clear HP HX
   have HM:=hid hx.left
   have sZ:=hid (And.intro hks hx.all.2)
   clear hks
   obtain⟨uo,uc,rfl⟩:=hR.slice
   have hbl:=hR.len
   have rE:=hid hbl
   have HR:=hid hR
   clear hR
   match m,hP with
   | 0,hP=>exact(iY hP).elim
   | m+1,hP=>
    simp only[P] at hP
    rcases bU hP with⟨f,h2,rfl⟩|⟨y2,h2,hP⟩
    clear hbl
    rotate_left
    by_cases g2:aG y2.t=fM
    rw[if_pos g2] at hP
    replace hP:=rF h2 g2 hP
    obtain rfl:=aQ hP
    clear hbl
    rotate_left
    rw[if_neg g2] at hP
    by_cases hz:fo.len=0
    rw[if_pos hz] at hP
    replace hP:((P m .ex).bind λx=>P m (.oq false (fo.app x))) s'=some r:=hP
    have hgt:¬ (bk.length:Int)>0:=by omega
    clear hbl hz
    rcases aX hP with⟨f,q9,rfl⟩|⟨f9,s9,q9,hP⟩
    rotate_left
    have qU:=hid hP
    clear hP
    focus
     go_wp2_with (first|(go_at_call 30;(with_reducible refine(nT (hx.alloc _).cx h2 _ _ g2 (aA (aL _ _) 0)).mono ?_);rintro e w2 ⟨rfl,hc2,hu2⟩;(replace hu2:=(It.bL.of_below ((aY _ _).alloc (aH _) _)).trans' hu2);(replace hx:=hx.next hc2 hu2);clear hc2;(replace HR:=hid (HR.out.upd hx.cx.lt hu2));clear hu2)|(go_at_call 148;(with_reducible refine(hx.jZ (cc m (by omega)) q9).mono ?_);rintro e w2 ⟨x,rfl,hx2,hU,hfx⟩;(obtain⟨u2,w4,hrun,ho2,hg2,hk2⟩:=fF w2 68 (.slice uo bk.length uc) bk.length _ (HR.out.upd hx.cx.lt hU).row hx2.cx.upd.size x (by have:=rE.out;have:=sZ.out;omega));(obtain⟨hxa,MX⟩:=hx2.sU hU hx.cx.upd.size HR.out hfx ho2 hg2 hk2);(have HF:=hid (show _=1 from(bg.len hfx).symm));(replace hx:=hxa);(have UD:=hid MX);clear hxa MX hx2 hU hfx ho2 hg2 hk2)|(at_builtin;refine ay _ rfl (.tmp 17) (.tmp 21) 68 68 rfl _ _ (by simp[Act.eval]) (by simp[Act.eval]) _ _ hrun ?_))
     go_roundw
     case rel=>
      have hle:=lT q9
      have e1:least .ex=1:=rfl
      have h2:=sZ.out
      refine⟨_,_,_,m,hx,UD.out,qU.out,by omega,?_⟩
      rw[Fo.gq,HF.out]
      omega
     case measure=>
      rw[hx.left,HM.out]
      have hle:=lT q9
      have e1:least .ex=1:=rfl
      omega
    rw[if_neg hz] at hP
    have hgt:(bk.length:Int)>0:=by omega
    clear hbl hz
    rcases bK hP with⟨f,h3,rfl⟩|⟨y3,h3,g3,rfl⟩|⟨y3,h3,g3,hP⟩
    rotate_left
    rotate_left
    replace hP:((P m .ex).bind λx=>P m (.oq false (fo.app x))) (behind y3 s')=some r:=hP
    rcases aX hP with⟨f,q9,rfl⟩|⟨f9,s9,q9,hP⟩
    rotate_left
    have qU:=hid hP
    clear hP
    focus
     go_wp2_with (first|(go_at_call 30;(with_reducible refine(nT (hx.alloc _).cx h2 _ _ g2 (aA (aL _ _) 0)).mono ?_);rintro e w2 ⟨rfl,hc2,hu2⟩;(replace hu2:=(It.bL.of_below ((aY _ _).alloc (aH _) _)).trans' hu2);(replace hx:=hx.next hc2 hu2);clear hc2;(replace HR:=hid (HR.out.upd hx.cx.lt hu2));clear hu2)|(go_at_call 50;(with_reducible refine(qX hx.cx h3 _ g3).mono ?_);rintro e w2 ⟨rfl,hc2,hu2⟩;(replace hx:=hx.next hc2 hu2);clear hc2;(replace HR:=hid (HR.out.upd hx.cx.lt hu2));clear hu2)|(go_at_call 148;(with_reducible refine(hx.jZ (cc m (by omega)) q9).mono ?_);rintro e w2 ⟨x,rfl,hx2,hU,hfx⟩;(obtain⟨u2,w4,hrun,ho2,hg2,hk2⟩:=fF w2 68 (.slice uo bk.length uc) bk.length _ (HR.out.upd hx.cx.lt hU).row hx2.cx.upd.size x (by have:=rE.out;have:=sZ.out;omega));(obtain⟨hxa,MX⟩:=hx2.sU hU hx.cx.upd.size HR.out hfx ho2 hg2 hk2);(have HF:=hid (show _=1 from(bg.len hfx).symm));(replace hx:=hxa);(have UD:=hid MX);clear hxa MX hx2 hU hfx ho2 hg2 hk2)|(at_builtin;refine ay _ rfl (.tmp 17) (.tmp 21) 68 68 rfl _ _ (by simp[Act.eval]) (by simp[Act.eval]) _ _ hrun ?_))
     go_roundw
     case rel=>
      have hle:=lT q9
      have e1:least .ex=1:=rfl
      have h2:=sZ.out
      refine⟨_,_,_,m,hx,UD.out,qU.out,by omega,?_⟩
      rw[Fo.gq,HF.out]
      have hbz:=iH h3;omega
     case measure=>
      rw[hx.left,HM.out]
      have hle:=lT q9
      have e1:least .ex=1:=rfl
      have hbz:=iH h3;omega
    all_goals (try clear hP)
    all_goals go_wp2_with (first|((with_reducible (apply Calls.mono;first|exact Sx.kV hx h2 _ _|exact Sx.dN hx (cc m (by omega)) q9|exact Sx.aN hx h3 _|exact Sx.fG hx h3 _ g3));rintro e w9 ⟨he,ht,hu⟩;(unfold kC fv at he);subst he)|((with_reducible (apply Calls.mono;first|exact zl (hx.alloc _).cx h2 _ _ g2 (aA (aL _ _) 0)|exact nT (hx.alloc _).cx h2 _ _ g2 (aA (aL _ _) 0)));rintro e w2 ⟨rfl,hc2,hu2⟩;(replace hu2:=(It.bL.of_below ((aY _ _).alloc (aH _) _)).trans' hu2);(replace hx:=hx.next hc2 hu2);clear hc2;(replace HR:=hid (HR.out.upd hx.cx.lt hu2));clear hu2)|((with_reducible (apply Calls.mono;first|exact qX hx.cx h2 _ g2|exact qX hx.cx h3 _ g3));rintro e w2 ⟨rfl,hc2,hu2⟩;(replace hx:=hx.next hc2 hu2);clear hc2;(replace HR:=hid (HR.out.upd hx.cx.lt hu2));clear hu2))
    all_goals first|exact⟨rfl,rfl,ht,hu⟩|(go_ret;exact⟨.slice uo bk.length uc,bk,rfl,hx.cx,HR.out⟩)
 all_goals (try clear hP)
 all_goals first|(guard_target =~ Calls _ _ _ _ _;go_enter func53,ntmps53)|skip
 all_goals go_wp2_with (((with_reducible (apply Calls.mono;first|exact Sx.aN hx h1 _|exact Sx.fG hx h1 _ g1));rintro e w9 ⟨he,ht,hu⟩;(unfold kC fv at he);subst he))
 all_goals first|exact⟨rfl,rfl,ht,hu⟩|(go_ret;exact hx.res (bO ..))
theorem Iy(n:Nat)(cc:∀m,m<=n->fZ 54 .pm m):BH 53 (.func (.func 54) #[] #[]) (.ls true) (n+1):=by
 intro W cb Ys v s r hC hP
 have hx:=Sx.start hC
 clear hC
 simp only[P] at hP
 rcases bK hP with⟨f,h1,rfl⟩|⟨y1,h1,g1,rfl⟩|⟨y1,h1,g1,hP⟩
 rotate_left
 rotate_left
 ·have HP:=hid hP
  clear hP
  go_enter func53,ntmps53
  go_wp2_with ((go_at_call 50;(with_reducible refine(Sx.want hx h1 _ g1).mono ?_);clear hx;rintro e w2 ⟨rfl,hx⟩))
  have HX:=hid hx
  clear hx
  go_loopw [5] (λu wr=>∃bk fo s' m,Sx W wr cb Ys v s' [] []/\Rw W.heap.size wr u bk fo/\P m (.oq true fo) s'=some r/\m<=n/\fo.len+s'.r.length<=Ys.length) (λ_ wr=>Ys.length-NK wr cb)
  case atStart=>exact⟨[],.nil,_,n,HX.out,Rw.nil _ _,HP.out,aH _,by have:=HX.out.all.1;simp only[Fo.len];omega⟩
  case round=>
   obtain⟨bk,fo,s',m,hx,hR,hP,hm,hks⟩:=hrel
   clear HP HX
   have HM:=hid hx.left
   have sZ:=hid (And.intro hks hx.all.2)
   clear hks
   obtain⟨uo,uc,rfl⟩:=hR.slice
   have hbl:=hR.len
   have rE:=hid hbl
   have HR:=hid hR
   clear hR
   match m,hP with
   | 0,hP=>exact(iY hP).elim
   | m+1,hP=>
    simp only[P] at hP
    rcases bU hP with⟨f,h2,rfl⟩|⟨y2,h2,hP⟩
    clear hbl
    rotate_left
    by_cases g2:aG y2.t=fM
    rw[if_pos g2] at hP
    replace hP:=rF h2 g2 hP
    obtain rfl:=aQ hP
    clear hbl
    rotate_left
    rw[if_neg g2] at hP
    by_cases hz:fo.len=0
    rw[if_pos hz] at hP
    replace hP:((P m .pm).bind λx=>P m (.oq true (fo.app x))) s'=some r:=hP
    have hgt:¬ (bk.length:Int)>0:=by omega
    clear hbl hz
    rcases aX hP with⟨f,q9,rfl⟩|⟨f9,s9,q9,hP⟩
    rotate_left
    have qU:=hid hP
    clear hP
    focus
     go_wp2_with (first|(go_at_call 30;(with_reducible refine(nT (hx.alloc _).cx h2 _ _ g2 (aA (aL _ _) 0)).mono ?_);rintro e w2 ⟨rfl,hc2,hu2⟩;(replace hu2:=(It.bL.of_below ((aY _ _).alloc (aH _) _)).trans' hu2);(replace hx:=hx.next hc2 hu2);clear hc2;(replace HR:=hid (HR.out.upd hx.cx.lt hu2));clear hu2)|(go_at_call 54;(with_reducible refine(hx.jZ (cc m (by omega)) q9).mono ?_);rintro e w2 ⟨x,rfl,hx2,hU,hfx⟩;(obtain⟨u2,w4,hrun,ho2,hg2,hk2⟩:=fF w2 68 (.slice uo bk.length uc) bk.length _ (HR.out.upd hx.cx.lt hU).row hx2.cx.upd.size x (by have:=rE.out;have:=sZ.out;omega));(obtain⟨hxa,MX⟩:=hx2.sU hU hx.cx.upd.size HR.out hfx ho2 hg2 hk2);(have HF:=hid (show _=1 from(bg.len hfx).symm));(replace hx:=hxa);(have UD:=hid MX);clear hxa MX hx2 hU hfx ho2 hg2 hk2)|(at_builtin;refine ay _ rfl (.tmp 17) (.tmp 21) 68 68 rfl _ _ (by simp[Act.eval]) (by simp[Act.eval]) _ _ hrun ?_))
     go_roundw
     case rel=>
      have hle:=lT q9
      have e1:least .pm=1:=rfl
      have h2:=sZ.out
      refine⟨_,_,_,m,hx,UD.out,qU.out,by omega,?_⟩
      rw[Fo.gq,HF.out]
      omega
     case measure=>
      rw[hx.left,HM.out]
      have hle:=lT q9
      have e1:least .pm=1:=rfl
      omega
    rw[if_neg hz] at hP
    have hgt:(bk.length:Int)>0:=by omega
    clear hbl hz
    rcases bK hP with⟨f,h3,rfl⟩|⟨y3,h3,g3,rfl⟩|⟨y3,h3,g3,hP⟩
    rotate_left
    rotate_left
    replace hP:((P m .pm).bind λx=>P m (.oq true (fo.app x))) (behind y3 s')=some r:=hP
    rcases aX hP with⟨f,q9,rfl⟩|⟨f9,s9,q9,hP⟩
    rotate_left
    have qU:=hid hP
    clear hP
    focus
     go_wp2_with (first|(go_at_call 30;(with_reducible refine(nT (hx.alloc _).cx h2 _ _ g2 (aA (aL _ _) 0)).mono ?_);rintro e w2 ⟨rfl,hc2,hu2⟩;(replace hu2:=(It.bL.of_below ((aY _ _).alloc (aH _) _)).trans' hu2);(replace hx:=hx.next hc2 hu2);clear hc2;(replace HR:=hid (HR.out.upd hx.cx.lt hu2));clear hu2)|(go_at_call 50;(with_reducible refine(qX hx.cx h3 _ g3).mono ?_);rintro e w2 ⟨rfl,hc2,hu2⟩;(replace hx:=hx.next hc2 hu2);clear hc2;(replace HR:=hid (HR.out.upd hx.cx.lt hu2));clear hu2)|(go_at_call 54;(with_reducible refine(hx.jZ (cc m (by omega)) q9).mono ?_);rintro e w2 ⟨x,rfl,hx2,hU,hfx⟩;(obtain⟨u2,w4,hrun,ho2,hg2,hk2⟩:=fF w2 68 (.slice uo bk.length uc) bk.length _ (HR.out.upd hx.cx.lt hU).row hx2.cx.upd.size x (by have:=rE.out;have:=sZ.out;omega));(obtain⟨hxa,MX⟩:=hx2.sU hU hx.cx.upd.size HR.out hfx ho2 hg2 hk2);(have HF:=hid (show _=1 from(bg.len hfx).symm));(replace hx:=hxa);(have UD:=hid MX);clear hxa MX hx2 hU hfx ho2 hg2 hk2)|(at_builtin;refine ay _ rfl (.tmp 17) (.tmp 21) 68 68 rfl _ _ (by simp[Act.eval]) (by simp[Act.eval]) _ _ hrun ?_))
     go_roundw
     case rel=>
      have hle:=lT q9
      have e1:least .pm=1:=rfl
      have h2:=sZ.out
      refine⟨_,_,_,m,hx,UD.out,qU.out,by omega,?_⟩
      rw[Fo.gq,HF.out]
      have hbz:=iH h3;omega
     case measure=>
      rw[hx.left,HM.out]
      have hle:=lT q9
      have e1:least .pm=1:=rfl
      have hbz:=iH h3;omega
    all_goals (try clear hP)
    all_goals go_wp2_with (first|((with_reducible (apply Calls.mono;first|exact Sx.kV hx h2 _ _|exact Sx.dN hx (cc m (by omega)) q9|exact Sx.aN hx h3 _|exact Sx.fG hx h3 _ g3));rintro e w9 ⟨he,ht,hu⟩;(unfold kC fv at he);subst he)|((with_reducible (apply Calls.mono;first|exact zl (hx.alloc _).cx h2 _ _ g2 (aA (aL _ _) 0)|exact nT (hx.alloc _).cx h2 _ _ g2 (aA (aL _ _) 0)));rintro e w2 ⟨rfl,hc2,hu2⟩;(replace hu2:=(It.bL.of_below ((aY _ _).alloc (aH _) _)).trans' hu2);(replace hx:=hx.next hc2 hu2);clear hc2;(replace HR:=hid (HR.out.upd hx.cx.lt hu2));clear hu2)|((with_reducible (apply Calls.mono;first|exact qX hx.cx h2 _ g2|exact qX hx.cx h3 _ g3));rintro e w2 ⟨rfl,hc2,hu2⟩;(replace hx:=hx.next hc2 hu2);clear hc2;(replace HR:=hid (HR.out.upd hx.cx.lt hu2));clear hu2))
    all_goals first|exact⟨rfl,rfl,ht,hu⟩|(go_ret;exact⟨.slice uo bk.length uc,bk,rfl,hx.cx,HR.out⟩)
 all_goals (try clear hP)
 all_goals first|(guard_target =~ Calls _ _ _ _ _;go_enter func53,ntmps53)|skip
 all_goals go_wp2_with (((with_reducible (apply Calls.mono;first|exact Sx.aN hx h1 _|exact Sx.fG hx h1 _ g1));rintro e w9 ⟨he,ht,hu⟩;(unfold kC fv at he);subst he))
 all_goals first|exact⟨rfl,rfl,ht,hu⟩|(go_ret;exact hx.res (bO ..))
end Go.Proofs.YtgchnkgolclmgaaGreatDoor.W.Tr

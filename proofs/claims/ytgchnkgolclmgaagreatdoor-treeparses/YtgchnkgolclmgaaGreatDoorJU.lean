import Derived.Test.YtgchnkgolclmgaaGreatDoorJG
import Derived.Test.YtgchnkgolclmgaaGreatDoorJT
open List renaming mem_cons_self → aH
open Array renaming getElem?_eq_some_iff → dQ
open Nat renaming le_refl → dI
open Go.World renaming size_alloc → bO, cell?_of_block → eU
open Go.RowKit.Below renaming heap_alloc → bY
open Go.AllReadyH renaming cons → aY, nil → ay
open And renaming intro → aL
open Go.Proofs.Tryz
open List renaming getElem_toArray → aW, getElem_cons_zero → aV, getElem_cons_succ → aU, setIfInBounds_toArray → aT, set_cons_zero → aS, set_cons_succ → aR
set_option maxRecDepth 1000000
set_option maxHeartbeats 8000000
namespace Go.Proofs.YtgchnkgolclmgaaGreatDoor.W.Tr
open Go.ChangeShapes Go.WideShapes Go.RowKit Go.Shelf
set_option linter.unusedVariables false
set_option linter.unusedSimpArgs false
theorem vM(n:Nat)(cl:BH 53 (.func (.func 148) #[] #[]) (.ls false) n):fZ 188 .nm (n+1):=by
 intro W cb Ys v s r hC hP
 have hx:=Sx.start hC
 clear hC
 simp only[P] at hP
 rcases iU hP with⟨f,h1,rfl⟩|⟨y1,h1,g1,rfl⟩|⟨y1,h1,g1,hP⟩
 rotate_left
 rotate_left
 have G1:=hid g1
 clear g1
 have HP:=hid hP
 clear hP
 focus
  go_enter func188,ntmps188
  go_upto_region 2 with((go_at_call 51;(with_reducible refine(Sx.name hx h1 G1.out).mono ?_);rintro e w2 ⟨he,hx2⟩;(unfold tv at he);subst he;(replace hx:=hx2);clear hx2))
 replace hx:=hx.gu y1
 generalize w2.alloc (.cells #[.int .i64 y1.t.kind,.int .i64 y1.a,.string y1.t.text,.int .i64 y1.t.int,.int .u64 y1.t.bits] 36)=W3 at *
 generalize w2.heap.size=nb at *
 replace hP:=HP.out
 clear HP
 rcases bU hP with⟨f,h2,rfl⟩|⟨y2,h2,hP⟩
 rotate_left
 by_cases g2:aG y2.t=gH
 rw[if_pos g2] at hP
 have HP:=hid hP
 clear hP
 focus
  go_upto_region 3 with((go_at_call 30;(with_reducible refine(Sx.gB hx h2 _ g2).mono ?_);clear hx;rintro e w2 ⟨rfl,hx⟩;(try obtain⟨x0,x1,x2,x3,x4⟩:=hx.tok (aH ..))))
  (try clear x0 x1 x2 x3 x4)
  replace hx:=hx.drew
  have hS:=hx.tok (aH ..)
  refine wp_region_held_drew (S:=λw'=>w'.cell? ⟨nb,0,none⟩=some (.int .i64 y1.t.kind)/\w'.cell? ⟨nb,1,none⟩=some (.int .i64 y1.a)/\w'.cell? ⟨nb,2,none⟩=some (.string y1.t.text)/\w'.cell? ⟨nb,3,none⟩=some (.int .i64 y1.t.int)/\w'.cell? ⟨nb,4,none⟩=some (.int .u64 y1.t.bits)) (by kernel_rfl) hS ?_
  clear hS
  intro hS
  iterate 2 ((refine It.nH 0 ?_ rfl (by kernel_rfl) (λ_ _ _ h=>h) (Or.inl ⟨by rfl,?_⟩) hS ?_);rotate_left;(focus (intro w' hSw;(obtain⟨s0,s1,s2,s3,s4⟩:=hSw);go_simp;(try with_reducible rfl)));(try simp only[Act.put,aW,aV,aU,aT,aS,aR]))
  refine wpAnyH_ready (rs:=[2]) (by kernel_rfl) (by simp) ?_
  refine aY rfl (λK hK=>?_) ay
  go_simp
  replace hP:=HP.out
  rcases aX hP with⟨f,q9,rfl⟩|⟨f9,s9,q9,hP⟩
  ·refine(hx.L8 cl q9).mono ?_
   rintro e w9 ⟨he,ht,hu⟩
   unfold kC fv at he
   subst he
   exact⟨rfl,rfl,ht,hu⟩
  clear HP
  obtain rfl:=aQ hP
  refine(hx.jq cl q9).mono ?_
  rintro e w3 ⟨u,bk,rfl,hx3,hU,hR⟩
  obtain⟨uo,uc,rfl⟩:=hR.slice
  refine hK.out _ _ (hx3.tok (aH ..)) (λhS2=>?_)
  clear hK K hS
  (try simp only[Act.put,aW,aV,aU,aT,aS,aR])
  refine wpAnyH_ready (rs:=[3]) (by kernel_rfl) (by simp) ?_
  refine aY rfl (λK hK=>?_) ay
  go_simp
  refine(hx3.ofRow hR 23 y1).mono ?_
  rintro e w4 ⟨b0,rfl,hx4,hb4⟩
  refine hK.out _ _ (hx4.tok (aH ..)) (λUW=>?_)
  clear hK K hS2
  (try simp only[Act.put,aW,aV,aU,aT,aS,aR])
  refine wpAnyH_ready (rs:=[4]) (by kernel_rfl) (by simp) ?_
  refine aY rfl (λK hK=>?_) ay
  go_simp
  refine hK.out _ _ (hx4.tok (aH ..)) (λQ5=>?_)
  clear hK K UW
  (try simp only[Act.put,aW,aV,aU,aT,aS,aR])
  refine wpAnyH_done (by kernel_rfl) ?_ _
  go_wp2
  go_ret
  exact hx4.res (aH ..)
 rw[if_neg g2] at hP
 obtain rfl:=aQ hP
 rotate_left
 all_goals (try clear hP)
 all_goals first|(guard_target =~ Calls _ _ _ _ _;go_enter func188,ntmps188)|skip
 all_goals go_wp2_with (first|((with_reducible (apply Calls.mono;first|exact Sx.bP hx h1|exact Sx.dO hx h1 g1|exact Sx.kV hx h2 _ _));rintro e w9 ⟨he,ht,hu⟩;(unfold kC fv at he);subst he)|(go_at_call 30;(with_reducible refine(Sx.iO hx h2 _ g2).mono ?_);clear hx;rintro e w2 ⟨rfl,hx⟩;(try obtain⟨x0,x1,x2,x3,x4⟩:=hx.tok (aH ..)))|(go_at_call 52;(with_reducible refine(Sx.Rv hx 25 y1).mono ?_);clear hx;rintro e w2 ⟨b0,rfl,hx⟩))
 all_goals first|exact⟨rfl,rfl,ht,hu⟩|(go_ret;exact hx.res (aH ..))
section
variable {W0 W w':World} {cb m g n b:Nat} {Ys:List Yd} {v u a:Value} {s s':Cs} {f:jv} {y:Yd} {nt:Nt} {nd:Nd} {fo fx ks:Fo} {bk:List Nat} {L:List (Nat × Fo)} {M:List (Nat × Yd)}
theorem Nw{c:Array Value}(h1:W.heap[b]? = some (.cells c 36 (0,0))){xs:List Value}(h2:W.ownsRow m 54 1 u n xs):u.ownBlock≠some b:=by
 intro e
 rcases h2.2 with⟨rfl,_⟩|⟨g,cap,cur,rfl,_,h3,_⟩
 ·cases e
 ·have:g=b:=Option.some.inj e
  subst this
  rw[h1] at h3
  simp at h3
theorem Sx.NP{w2 w4:World}{x:Nat}{u':Value}(h:Sx W0 w2 cb Ys v s L M)(hU:It.bL (λk=>k=cb) W w2)(hW:W0.heap.size<=W.heap.size)(hR:Rw W0.heap.size W u bk fo)(hx:bg w2 (λk=>W.heap.size<=k) [x] fx)
  (h2:w4.ownsRow W0.heap.size 54 1 u' (bk.length+1) (bk.map ptr++[ptr x])) (h3:(w2.alloc (.cells #[ptr x] 54)).grownBy w4 u.ownBlock) (h5:u'.ownBlock=u.ownBlock\/u'.ownBlock=some (w2.alloc (.cells #[ptr x] 54)).heap.size) :
  Sx W0 w4 cb Ys v s [] M/\Rw W0.heap.size w4 u' (bk++[x]) (fo.app fx):=by
 obtain⟨a1,a2⟩:=h.sU hU hW hR hx h2 h3 h5
 refine⟨⟨a1.cx,by simp,λp hp=>⟨(h.tk p hp).1,?_⟩⟩,a2⟩
 have ht:=(h.tk p hp).2
 have hl:=(dQ.1 ht).1
 have hne:=Nw ht (hR.upd h.cx.lt hU).row
 rw[h3.block _ (by rw[bO];omega) (λe=>hne e.symm),bY _ _ _ hl]
 exact ht
end
theorem FI(n:Nat)(cl:BH 53 (.func (.func 54) #[] #[]) (.ls true) n)(xJ:fZ 55 .bl n):fZ 32 .fu (n+1):=by
 intro W cb Ys v s r hC hP
 have hx:=Sx.start hC
 clear hC
 simp only[P] at hP
 rcases bK hP with⟨f,h1,rfl⟩|⟨y1,h1,g1,rfl⟩|⟨y1,h1,g1,hP⟩
 rotate_left
 rotate_left
 rcases iU hP with⟨f,h2,rfl⟩|⟨y2,h2,g2,rfl⟩|⟨y2,h2,g2,hP⟩
 rotate_left
 rotate_left
 have G2:=hid g2
 clear g2
 have HP:=hid hP
 clear hP
 focus
  go_enter func32,ntmps32
  go_upto_region 3 with(first|(go_at_call 50;(with_reducible refine(Sx.want hx h1 _ g1).mono ?_);clear hx;rintro e w2 ⟨rfl,hx⟩)|(go_at_call 51;(with_reducible refine(Sx.name hx h2 G2.out).mono ?_);rintro e w2 ⟨he,hx2⟩;(unfold tv at he);subst he;(replace hx:=hx2);clear hx2))
 replace hx:=hx.gu y2
 generalize w2.alloc (.cells #[.int .i64 y2.t.kind,.int .i64 y2.a,.string y2.t.text,.int .i64 y2.t.int,.int .u64 y2.t.bits] 36)=W3 at *
 generalize w2.heap.size=nb at *
 replace hP:=HP.out
 clear HP
 rcases aX hP with⟨f,q3,rfl⟩|⟨f3,s3,q3,hP⟩
 rotate_left
 have hln:f3.len<=1900000:=by
  have h1:=made n (.ls true) ((behind y2 (behind y1 s)).r.length+2) _ f3 s3 (dI _) trivial q3
  have h2:=hx.all
  have h3:f3.len<=_:=h1
  omega
 have iy:=hid hln
 clear hln
 have HP:=hid hP
 clear hP
 focus
  go_upto_region 4 with(go_at_call 53;(with_reducible refine(Sx.jq hx cl q3).mono ?_);rintro e w3 ⟨u,bk,rfl,hx2,hU,hR⟩;(obtain⟨uo,uc,rfl⟩:=hR.slice);(replace hx:=hx2);(have HR:=hid hR);(have rE:=hid hR.len);clear hx2 hU hR)
  replace hx:=hx.drew
  replace HR:=hid (HR.out.upd hx.cx.lt (It.bL.of_below (Below.refl _ _).drew))
  have hS:=hx.tok (aH ..)
  refine wp_region_held_drew (S:=(λw'=>w'.cell? ⟨nb,0,none⟩=some (.int .i64 y2.t.kind)/\w'.cell? ⟨nb,1,none⟩=some (.int .i64 y2.a)/\w'.cell? ⟨nb,2,none⟩=some (.string y2.t.text)/\w'.cell? ⟨nb,3,none⟩=some (.int .i64 y2.t.int)/\w'.cell? ⟨nb,4,none⟩=some (.int .u64 y2.t.bits))) (by kernel_rfl) hS ?_
  clear hS
  intro hS
  iterate 3 ((refine It.nH 0 ?_ rfl (by kernel_rfl) (λ_ _ _ h=>h) (Or.inl ⟨by rfl,?_⟩) hS ?_);rotate_left;(focus (intro w' hSw;(obtain⟨s0,s1,s2,s3,s4⟩:=hSw);go_simp;(try with_reducible rfl)));(try simp only[Act.put,aW,aV,aU,aT,aS,aR]))
  refine wpAnyH_ready (rs:=[3]) (by kernel_rfl) (by simp) ?_
  refine aY rfl (λK hK=>?_) ay
  go_simp
  replace hP:=HP.out
  rcases aX hP with⟨f,q4,rfl⟩|⟨f4,s4,q4,hP⟩
  ·refine(hx.dN xJ q4).mono ?_
   rintro e w9 ⟨he,ht,hu⟩
   unfold kC fv at he
   subst he
   exact⟨rfl,rfl,ht,hu⟩
  clear HP
  obtain rfl:=aQ hP
  refine(hx.jZ xJ q4).mono ?_
  rintro e w5 ⟨x,rfl,hx5,hU,hfx⟩
  refine hK.out _ _ (hx5.tok (aH ..)) (λhS2=>?_)
  clear hK K hS
  (try simp only[Act.put,aW,aV,aU,aT,aS,aR])
  obtain⟨u2,w6,hrun,ho2,hg2,hk2⟩:=fF w5 68 (.slice uo bk.length uc) bk.length _ (HR.out.upd hx.cx.lt hU).row hx5.cx.upd.size x (by have:=rE.out;have:=iy.out;omega)
  obtain⟨o2,c2,rfl⟩:=aI ho2
  obtain⟨hx6,hR6⟩:=hx5.NP hU hx.cx.upd.size HR.out hfx ho2 hg2 hk2
  refine wpAnyH_ready (rs:=[4]) (by kernel_rfl) (by simp) ?_
  refine aY rfl (λK hK=>?_) ay
  go_simp
  refine hK.out _ _ ((hx5.alloc (.cells #[ptr x] 54)).tok (aH ..)) (λUW=>?_)
  clear hK K hS2
  (try simp only[Act.put,aW,aV,aU,aT,aS,aR])
  refine wpAnyH_ready (rs:=[5]) (by kernel_rfl) (by simp) ?_
  refine aY rfl (λK hK=>?_) ay
  rw[if_pos (by rfl)]
  refine Lib.wp_append_run _ (.tmp 12) (.tmp 15) 68 68 rfl _ _ rfl rfl _ _ hrun ?_
  refine hK.out _ _ (hx6.tok (aH ..)) (λQ5=>?_)
  clear hK K UW hrun
  (try simp only[Act.put,aW,aV,aU,aT,aS,aR])
  refine wpAnyH_ready (rs:=[6]) (by kernel_rfl) (by simp) ?_
  refine aY rfl (λK hK=>?_) ay
  go_simp
  refine(hx6.ofRow hR6 3 y2).mono ?_
  rintro e w7 ⟨b0,rfl,hx7,hb7⟩
  refine hK.out _ _ (hx7.tok (aH ..)) (λhS5=>?_)
  clear hK K Q5
  (try simp only[Act.put,aW,aV,aU,aT,aS,aR])
  refine wpAnyH_ready (rs:=[7]) (by kernel_rfl) (by simp) ?_
  refine aY rfl (λK hK=>?_) ay
  go_simp
  refine hK.out _ _ (hx7.tok (aH ..)) (λhS6=>?_)
  clear hK K hS5
  (try simp only[Act.put,aW,aV,aU,aT,aS,aR])
  refine wpAnyH_done (by kernel_rfl) ?_ _
  go_wp2
  go_ret
  exact hx7.res (aH ..)
 all_goals (try clear hP)
 all_goals first|(guard_target =~ Calls _ _ _ _ _;go_enter func32,ntmps32)|skip
 all_goals go_wp2_with (first|((with_reducible (apply Calls.mono;first|exact Sx.aN hx h1 _|exact Sx.fG hx h1 _ g1|exact Sx.bP hx h2|exact Sx.dO hx h2 g2));rintro e w9 ⟨he,ht,hu⟩;(unfold kC fv at he);subst he)|(go_at_call 50;(with_reducible refine(Sx.want hx h1 _ g1).mono ?_);clear hx;rintro e w2 ⟨rfl,hx⟩)|(go_at_call 53;(with_reducible refine(Sx.L8 hx cl q3).mono ?_);rintro e w9 ⟨he,ht,hu⟩;(unfold kC fv at he);subst he))
 all_goals first|exact⟨rfl,rfl,ht,hu⟩|(go_ret;exact hx.res (aH ..))
theorem T9:∀ {n:Nat} {s s':Cs} {fo:Fo},P n .bl s=some (.ok (fo,s'))->fo.len=1
 | 0,s,s',fo,h=>(iY h).elim
 | n+1,s,s',fo,h=>by
  simp only[P] at h
  rcases bK h with⟨f,_,e⟩|⟨y,_,_,e⟩|⟨y,_,_,h⟩
  ·cases e
  ·cases e
  obtain⟨rr,_,e⟩:=BS h
  match rr,e with
  | .error f,e=>cases e
  | .ok (l,s2),e=>cases e;rfl
theorem Mg{n:Nat}{s s':Cs}{fo:Fo}(h:P n .ex s=some (.ok (fo,s'))):fo.len=1:=sj.len (made n .ex _ s fo s' (dI _) trivial h)
theorem TG:∀ {n:Nat} {s s':Cs} {fo:Fo},P n .fr s=some (.ok (fo,s'))->∃nd ks,fo=Fo.one nd ks/\ks.len=3
 | 0,s,s',fo,h=>(iY h).elim
 | n+1,s,s',fo,h=>by
  simp only[P] at h
  rcases bK h with⟨f,_,e⟩|⟨y,_,_,e⟩|⟨y,_,_,h⟩
  ·cases e
  ·cases e
  rcases iU h with⟨f,_,e⟩|⟨y,_,_,e⟩|⟨y,_,_,h⟩
  ·cases e
  ·cases e
  rcases bK h with⟨f,_,e⟩|⟨y,_,_,e⟩|⟨y,_,_,h⟩
  ·cases e
  ·cases e
  rcases aX h with⟨f,_,e⟩|⟨a,s1,h1,h⟩
  ·cases e
  rcases bK h with⟨f,_,e⟩|⟨y,_,_,e⟩|⟨y,_,_,h⟩
  ·cases e
  ·cases e
  rcases aX h with⟨f,_,e⟩|⟨c,s2,h2,h⟩
  ·cases e
  rcases aX h with⟨f,_,e⟩|⟨d,s3,h3,h⟩
  ·cases e
  cases aQ h
  exact⟨_,_,rfl,by rw[Fo.gq,Fo.gq,Mg h1,Mg h2,T9 h3]⟩
theorem Qz:∀ {n:Nat} {s s':Cs} {fo:Fo},P n .wh s=some (.ok (fo,s'))->∃nd ks,fo=Fo.one nd ks
 | 0,s,s',fo,h=>(iY h).elim
 | n+1,s,s',fo,h=>by
  simp only[P] at h
  rcases bK h with⟨f,_,e⟩|⟨y,_,_,e⟩|⟨y,_,_,h⟩
  ·cases e
  ·cases e
  rcases aX h with⟨f,_,e⟩|⟨c,s2,h2,h⟩
  ·cases e
  rcases aX h with⟨f,_,e⟩|⟨d,s3,h3,h⟩
  ·cases e
  cases aQ h
  exact⟨_,_,rfl⟩
section
variable {W0 W wA w4 w':World} {cb b:Nat} {Ys:List Yd} {v u u':Value} {s:Cs} {nd nl:Nd} {ks:Fo} {bk:List Nat} {L:List (Nat × Fo)} {M:List (Nat × Yd)}
theorem D7(W:World)(ty:TypeId){m:Nat}(hm:m<=W.heap.size)(x:Nat)(g n cap:Nat)(bk:List Nat)(hu:W.ownsRow m 54 1 (.slice (some ⟨g,0,none⟩) n cap) n (bk.map ptr))(hn:n<=1000000):∃v' w',(Builtin.append_ #[68,68] ty #[.slice (some ⟨W.heap.size,0,none⟩) 1 1,.slice (some ⟨g,0,none⟩) n cap]).run prog (W.alloc (.cells #[ptr x] 54))=.ok v' w'/\w'.ownsRow m 54 1 v' (1+n) ([ptr x]++bk.map ptr)/\(W.alloc (.cells #[ptr x] 54)).grownBy w' (some W.heap.size)/\(v'.ownBlock=some W.heap.size\/v'.ownBlock=some (W.heap.size+1)):=by
 obtain⟨i0,hi,hz0,hz1,hz2⟩:∃i,prog.info? 54=some i/\i.zero=some (.pointer none)/\i.size=1/\i.bytes=8:=by
  have h:=DF
  cases hq:prog.info? 54 with
  | none=>rw[hq] at h;cases h
  | some i=>
   rw[hq] at h
   simp at h
   exact⟨i,rfl,h.1,h.2.1,h.2.2⟩
 have hl:(bk.map ptr).length=n*1:=hu.1
 have ho:(W.alloc (.cells #[ptr x] 54)).ownsRow m 54 1 (.slice (some ⟨W.heap.size,0,none⟩) 1 1) 1 [ptr x]:=⟨rfl,.inr ⟨W.heap.size,1,_,rfl,hm,World.alloc_heap_new W _,dI _,(by unfold maxLen;omega),(by simp),(by simp)⟩⟩
 have hu2:=hu.alloc (.cells #[ptr x] 54)
 obtain⟨v',w',h1,h2,h3,_,h5⟩:=run_append_own_at (P:=prog) (W.alloc (.cells #[ptr x] 54)) m 68 ty 54 i0 _ 1 8 Ux hi hz0 hz1 hz2 rfl (by omega) _ 1 [ptr x] ho ⟨g,0,none⟩ n cap (bk.map ptr) hl (by
  intro j z hj
  have e1:((⟨g,0,none⟩:Addr).add j)=⟨g,j,none⟩:=by simp[Addr.add];intro e;exact e.symm
  rw[e1]
  rcases hu2.2 with⟨e,_⟩|⟨g',c',cur,e,_,q3,q4,q5,q6,q7⟩
  ·cases e
  ·have eg:g=g':=by simp at e;exact e.1
   subst eg
   have hj2:j<n:=by
    have:=(List.getElem?_eq_some_iff.1 hj).1
    omega
   rw[cell_of_row _ g j _ _ _ q3,<- hj,<- q7,List.getElem?_take,if_pos (by omega),Array.getElem?_toList]) (by
  intro z hz
  simp at hz
  obtain⟨q,_,rfl⟩:=hz
  rfl) (by unfold maxLen;omega) (by omega) (by simp;omega)
 refine⟨v',w',h1,h2,h3,?_⟩
 rw[bO] at h5
 exact h5
theorem Sx.prepend(h:Sx W0 W cb Ys v s L M)(hb:Br W0.heap.size W b nd u bk ks)(hB:Below W.heap.size W wA)(hl:wA.heap[W.heap.size+1]? = some (.cells (oI nl (.slice none 0 0)) 70 (0,0)))(hz:wA.heap.size=W.heap.size+2)
  (h2:w4.ownsRow W0.heap.size 54 1 u' (1+bk.length) ([ptr (W.heap.size+1)]++bk.map ptr)) (h3:(wA.alloc (.cells #[ptr (W.heap.size+1)] 54)).grownBy w4 (some wA.heap.size)) (h5:u'.ownBlock=some wA.heap.size\/u'.ownBlock=some (wA.heap.size+1)) :
  Sx W0 (w4.setCell ⟨b,6,none⟩ u') cb Ys v s [(b,Fo.one nd ((Fo.one nl .nil).app ks))] []:=by
 have lb:=hb.lt
 have hlo:=hb.lo
 have z3:(wA.alloc (.cells #[ptr (W.heap.size+1)] 54)).heap.size=wA.heap.size+1:=bO _ _
 have z4:=h3.size
 rw[z3] at z4
 have hzw:=h.cx.upd.size
 have keep:∀k,k<wA.heap.size->k≠b->(w4.setCell ⟨b,6,none⟩ u').heap[k]? = wA.heap[k]?:=by
  intro k hk hn
  rw[Below.heap_setCell _ _ _ _ hn,h3.block k (by omega) (λe=>by have:=Option.some.inj e;omega),bY _ _ _ hk]
 have ub:∀k,u'.ownBlock=some k->wA.heap.size<=k:=by
  intro k e
  rcases h5 with h5|h5
  ·rw[h5] at e
   have:=Option.some.inj e
   omega
  ·rw[h5] at e
   have:=Option.some.inj e
   omega
 have hA:=h.below hB
 have mE:It.bL (λk=>k=cb) W0 (w4.setCell ⟨b,6,none⟩ u'):=by
  have a1:=(hA.alloc (.cells #[ptr (W.heap.size+1)] 54)).cx.upd
  have a2:=a1.grown h3 (λk e=>.inr ⟨by have:=Option.some.inj e;omega,by have:=Option.some.inj e;rw[bO];omega⟩)
  exact a2.setCell (p:=⟨b,6,none⟩) (.inr ⟨hlo,by show b<w4.heap.size;omega⟩) u'
 have t4:w4.heap[b]? = some (.cells (oI nd u) 70 (0,0)):=by
  rw[h3.block b (by omega) (λe=>by have:=Option.some.inj e;omega),bY _ _ _ (by omega)]
  exact aF hb.top hB
 have t5:=aM (c:=[.int .i64 nd.kind,.int .i64 nd.a,.int .i64 0,.string nd.text,.int .i64 nd.int,.int .u64 nd.bits,u]) t4 6 u'
 have hBr:Br W0.heap.size (w4.setCell ⟨b,6,none⟩ u') b nd u' ([W.heap.size+1]++bk) ((Fo.one nl .nil).app ks):=by
  refine⟨hlo,t5,?_,λk e=>by have:=ub k e;omega,?_⟩
  ·have:=bD (W':=w4.setCell ⟨b,6,none⟩ u') h2 (λk e=>Below.heap_setCell _ _ _ _ (by have:=ub k e;show k≠b;omega))
   simpa [Nat.add_comm] using this
  ·refine bg.app ?_ ?_
   ·refine⟨W.heap.size+1,[],.slice none 0 0,[],rfl,⟨by omega,by omega,λc=>by have:=ub _ c;omega⟩,(keep _ (by omega) (by omega)).trans hl,World.ownsRow_nil _ _ _ _,(λk e=>by cases e),rfl,rfl⟩
   ·refine bg.mono ?_ ((hb.kids.lt).on (λk e hk=>(keep k (by omega) e.1.2.1).trans (hB.block k e.2)))
    intro k e
    exact⟨e.1.1,e.1.2.1,λc=>by have:=ub k c;omega⟩
 refine⟨hA.cx.keep (λk hk=>keep k (by omega) (by omega)) mE,?_,by simp⟩
 intro p hp
 simp at hp
 subst hp
 exact hBr.shut
end
theorem Ej(n:Nat)(cf:fZ 116 .fr n)(cw:fZ 115 .wh n):fZ 121 .lb (n+1):=by
 intro W cb Ys v s r hC hP
 have hx:=Sx.start hC
 clear hC
 simp only[P] at hP
 rcases iU hP with⟨f,h1,rfl⟩|⟨y1,h1,g1,rfl⟩|⟨y1,h1,g1,hP⟩
 rotate_left
 rotate_left
 have G1:=hid g1
 clear g1
 have HP:=hid hP
 clear hP
 focus
  go_enter func121,ntmps121
  go_upto_region 2 with((go_at_call 51;(with_reducible refine(Sx.name hx h1 G1.out).mono ?_);rintro e w2 ⟨he,hx2⟩;(unfold tv at he);subst he;(replace hx:=hx2);clear hx2))
 replace hx:=hx.gu y1
 generalize w2.alloc (.cells #[.int .i64 y1.t.kind,.int .i64 y1.a,.string y1.t.text,.int .i64 y1.t.int,.int .u64 y1.t.bits] 36)=W3 at *
 generalize w2.heap.size=nb at *
 replace hP:=HP.out
 clear HP
 rcases bK hP with⟨f,h2,rfl⟩|⟨y2,h2,g2,rfl⟩|⟨y2,h2,g2,hP⟩
 rotate_left
 rotate_left
 rcases bU hP with⟨f,h3,rfl⟩|⟨y3,h3,hP⟩
 rotate_left
 by_cases g3:aG y3.t=dZ
 rw[if_pos g3] at hP
 rcases aX hP with⟨f,q5,rfl⟩|⟨f5,s5,q5,hP⟩
 rotate_left
 obtain⟨nd,ks,rfl,hks⟩:=TG q5
 replace hP:Pm.pure (Fo.one nd ((Fo.one (jr 12 y1) .nil).app ks)) s5=some r:=hP
 obtain rfl:=aQ hP
 focus
  go_upto_region 5 with(first|((with_reducible (apply Calls.mono;first|exact Sx.want hx h2 _ g2|exact Sx.gB hx h3 _ g3));clear hx;rintro e w2 ⟨rfl,hx⟩)|(go_at_call 116;(with_reducible refine(Sx.part hx cf q5).mono ?_);clear hx;rintro e w2 ⟨b5,rfl,hx⟩))
  obtain⟨u,bk,hbr⟩:=Br.of (hx.ts (b5,Fo.one nd ks) (by simp))
  have hlen:=bg.len hbr.kids
  rw[hks] at hlen
  replace hx:=hx.drew
  replace hbr:=hbr.upd hx.cx.lt (It.bL.of_below (Below.refl _ _).drew)
  obtain⟨g2,uc,rfl⟩:∃g2 uc,u=.slice (some ⟨g2,0,none⟩) bk.length uc:=by
   rcases hbr.row.2 with⟨_,e⟩|⟨g2,uc,_,e,_⟩
   ·omega
   ·exact⟨g2,uc,e⟩
  have hS:=aL (hx.tok (aH ..)).1 (aL (hx.tok (aH ..)).2.1 (aL (hx.tok (aH ..)).2.2.1 (aL (hx.tok (aH ..)).2.2.2.1 (aL (hx.tok (aH ..)).2.2.2.2 (aA hbr.top 6:_=some (Value.slice (some ⟨g2,0,none⟩) bk.length uc))))))
  have HB:=hid hbr
  have HL:=hid hlen
  clear hbr hlen hks
  refine It.bM (z:=11) (S:=(λw'=>w'.cell? ⟨nb,0,none⟩=some (.int .i64 y1.t.kind)/\w'.cell? ⟨nb,1,none⟩=some (.int .i64 y1.a)/\w'.cell? ⟨nb,2,none⟩=some (.string y1.t.text)/\w'.cell? ⟨nb,3,none⟩=some (.int .i64 y1.t.int)/\w'.cell? ⟨nb,4,none⟩=some (.int .u64 y1.t.bits)/\w'.cell? ⟨b5,6,none⟩=some (Value.slice (some ⟨g2,0,none⟩) bk.length uc))) (by kernel_rfl) ?_
  generalize w2.drew=Wd at *
  iterate 2 ((refine It.nL 0 ?_ rfl (by kernel_rfl) (λ_ _ _ h=>h) (Or.inl ⟨by rfl,?_⟩) hS ?_);rotate_left;(focus (intro w' hSw;(obtain⟨s0,s1,s2,s3,s4,s5⟩:=hSw);go_simp;(try with_reducible rfl)));(try simp only[Act.put,aW,aV,aU,aT,aS,aR]))
  iterate 4 ((refine It.nL 4 ?_ rfl (by kernel_rfl) (λ_ _ _ h=>h) (Or.inl ⟨by rfl,?_⟩) hS ?_);rotate_left;(focus (intro w' hSw;(obtain⟨s0,s1,s2,s3,s4,s5⟩:=hSw);go_simp;(try with_reducible rfl)));(try simp only[Act.put,aW,aV,aU,aT,aS,aR]))
  refine It.aD (i:=2) (by kernel_rfl) rfl rfl (λK hK=>?_)
  refine It.aB (λc h=>by cases h) ?_
  have HK:=hid hK
  clear hK
  go_simp
  refine(Lf 12 y1 none 0 0 _).mono ?_
  rintro e wA ⟨rfl,bA,tA,zA⟩
  have ZA:=hid zA
  clear zA
  have hnb:nb<_:=(dQ.1 (hx.tk _ (aH ..)).2).1
  have hb5:=HB.out.lt
  refine HK.out _ _ (.inr ⟨(bA.cell (p:=⟨nb,0,none⟩) hnb).trans hS.1,(bA.cell (p:=⟨nb,1,none⟩) hnb).trans hS.2.1,(bA.cell (p:=⟨nb,2,none⟩) hnb).trans hS.2.2.1,(bA.cell (p:=⟨nb,3,none⟩) hnb).trans hS.2.2.2.1,(bA.cell (p:=⟨nb,4,none⟩) hnb).trans hS.2.2.2.2.1,(bA.cell (p:=⟨b5,6,none⟩) hb5).trans hS.2.2.2.2.2⟩) ?_
  clear HK
  (try simp only[Act.put,aW,aV,aU,aT,aS,aR])
  obtain⟨u2,w4,hrun,ho2,hg2,hk2⟩:=D7 wA 68 (Nat.le_trans hx.cx.upd.size bA.size) (Wd.heap.size+1) g2 bk.length uc bk (HB.out.upd hx.cx.lt (It.bL.of_below bA)).row (by have:=HL.out;omega)
  obtain⟨o2,c2,rfl⟩:=aI ho2
  refine It.aD (i:=3) (by kernel_rfl) rfl rfl (λK hK=>?_)
  refine It.aB (λc h=>by cases h) ?_
  have HK:=hid hK
  clear hK
  go_simp
  have bB:=λ(o:Obj)=>bA.trans (((Below.refl _ wA).alloc (dI _) o).mono bA.size)
  refine HK.out _ _ (.inr ⟨((bB _).cell (p:=⟨nb,0,none⟩) hnb).trans hS.1,((bB _).cell (p:=⟨nb,1,none⟩) hnb).trans hS.2.1,((bB _).cell (p:=⟨nb,2,none⟩) hnb).trans hS.2.2.1,((bB _).cell (p:=⟨nb,3,none⟩) hnb).trans hS.2.2.2.1,((bB _).cell (p:=⟨nb,4,none⟩) hnb).trans hS.2.2.2.2.1,((bB _).cell (p:=⟨b5,6,none⟩) hb5).trans hS.2.2.2.2.2⟩) ?_
  clear HK
  (try simp only[Act.put,aW,aV,aU,aT,aS,aR])
  refine It.aD (i:=8) (by kernel_rfl) rfl rfl (λK hK=>?_)
  refine It.aB (λc h=>by cases h) ?_
  refine Lib.wp_append_run _ (.tmp 18) (.tmp 22) 68 68 rfl _ _ rfl rfl _ _ hrun ?_
  have gk:∀p:Addr,p.block<wA.heap.size->w4.cell? p=wA.cell? p:=λp hp=>(eU (hg2.block _ (by rw[bO];omega) (λe=>by have:=Option.some.inj e;omega))).trans (eU (bY _ _ _ hp))
  have Vh:nb<wA.heap.size:=Nat.lt_of_lt_of_le hnb bA.size
  have hbA:b5<wA.heap.size:=Nat.lt_of_lt_of_le hb5 bA.size
  have Q5:=aL (((gk ⟨nb,0,none⟩ Vh).trans (bA.cell (p:=⟨nb,0,none⟩) hnb)).trans hS.1) (aL (((gk ⟨nb,1,none⟩ Vh).trans (bA.cell (p:=⟨nb,1,none⟩) hnb)).trans hS.2.1) (aL (((gk ⟨nb,2,none⟩ Vh).trans (bA.cell (p:=⟨nb,2,none⟩) hnb)).trans hS.2.2.1) (aL (((gk ⟨nb,3,none⟩ Vh).trans (bA.cell (p:=⟨nb,3,none⟩) hnb)).trans hS.2.2.2.1) (aL (((gk ⟨nb,4,none⟩ Vh).trans (bA.cell (p:=⟨nb,4,none⟩) hnb)).trans hS.2.2.2.2.1) (((gk ⟨b5,6,none⟩ hbA).trans (bA.cell (p:=⟨b5,6,none⟩) hb5)).trans hS.2.2.2.2.2)))))
  clear gk
  refine hK _ _ (.inr Q5) ?_
  clear hK K hrun
  (try simp only[Act.put,aW,aV,aU,aT,aS,aR])
  refine It.aD (i:=9) (by kernel_rfl) rfl rfl (λK hK=>?_)
  refine It.aB (λc h=>by cases h) ?_
  have HK:=hid hK
  clear hK
  go_simp
  refine HK.out _ _ (.inr Q5) ?_
  clear HK
  (try simp only[Act.put,aW,aV,aU,aT,aS,aR])
  refine It.aD (i:=10) (by kernel_rfl) rfl rfl (λK hK=>?_)
  refine It.aB (λc h=>by cases h) ?_
  have HK:=hid hK
  clear hK
  go_simp
  refine HK.out _ _ (.inr Q5) ?_
  clear HK
  (try simp only[Act.put,aW,aV,aU,aT,aS,aR])
  have t4:=(hg2.block b5 (by rw[bO];omega) (λe=>by have:=Option.some.inj e;omega)).trans ((bY _ _ _ hbA).trans (aF HB.out.top bA))
  refine It.aD (i:=11) (by kernel_rfl) rfl rfl (λK hK=>?_)
  refine It.aB (λc h=>by cases h) ?_
  have HK:=hid hK
  clear hK
  have q6:=Q5.2.2.2.2.2
  have zz:=aC t4 6
  clear hS Q5
  go_simp
  have hx3:=hx.prepend HB.out bA tA ZA.out ho2 hg2 hk2
  refine HK.out _ _ (.inl rfl) ?_
  clear HK
  (try simp only[Act.put,aW,aV,aU,aT,aS,aR])
  refine It.bQ (by kernel_rfl) ?_ _
  clear zz q6 t4
  go_wp2
  go_ret
  exact hx3.res (aH ..)
 rw[if_neg g3] at hP
 rcases aX hP with⟨f,q5,rfl⟩|⟨f5,s5,q5,hP⟩
 rotate_left
 obtain⟨nd,ks,rfl⟩:=Qz q5
 replace hP:Pm.pure (Fo.one ⟨nd.kind,nd.a,y1.t.text,nd.int,nd.bits⟩ ks) s5=some r:=hP
 obtain rfl:=aQ hP
 focus
  go_upto_region 9 with(first|((with_reducible (apply Calls.mono;first|exact Sx.want hx h2 _ g2|exact Sx.iO hx h3 _ g3));clear hx;rintro e w2 ⟨rfl,hx⟩)|(go_at_call 115;(with_reducible refine(Sx.part hx cw q5).mono ?_);clear hx;rintro e w2 ⟨b5,rfl,hx⟩;(obtain⟨x0,x1,x2,x3,x4⟩:=hx.tok (aH ..));(obtain⟨k0,k1,k3,zf⟩:=hx.cells (b:=b5) (nd:=nd) (ks:=ks) (by simp));(have z3:=zf 3);clear zf))
  replace hx:=hx.set (b:=b5) (nd:=nd) (nd':=⟨nd.kind,nd.a,y1.t.text,nd.int,nd.bits⟩) (ks:=ks) (by simp) 3 (.string y1.t.text) (λu=>rfl)
  clear k0 k1 k3 z3 x0 x1 x2 x3 x4
  go_wp2
  go_ret
  exact hx.res (aH ..)
 all_goals (try clear hP)
 all_goals first|(guard_target =~ Calls _ _ _ _ _;go_enter func121,ntmps121)|skip
 all_goals go_wp2_with (first|((with_reducible (apply Calls.mono;first|exact Sx.bP hx h1|exact Sx.dO hx h1 g1|exact Sx.aN hx h2 _|exact Sx.fG hx h2 _ g2|exact Sx.kV hx h3 _ _|exact Sx.dN hx cf q5|exact Sx.dN hx cw q5));rintro e w9 ⟨he,ht,hu⟩;(unfold kC fv at he);subst he)|((with_reducible (apply Calls.mono;first|exact Sx.want hx h2 _ g2|exact Sx.gB hx h3 _ g3|exact Sx.iO hx h3 _ g3));clear hx;rintro e w2 ⟨rfl,hx⟩))
 all_goals first|exact⟨rfl,rfl,ht,hu⟩|(go_ret;exact hx.res (aH ..))
end Go.Proofs.YtgchnkgolclmgaaGreatDoor.W.Tr

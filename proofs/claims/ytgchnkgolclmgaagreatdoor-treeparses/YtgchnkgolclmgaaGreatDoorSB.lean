import Derived.Test.YtgchnkgolclmgaaGreatDoorJG
import Derived.Test.YtgchnkgolclmgaaGreatDoorSA
open Array renaming getElem?_eq_some_iff → aL
open Nat renaming lt_of_lt_of_le → dR
open Go.World renaming alloc → ay, alloc_heap_new → gI
open Go.RowKit.Below renaming heap_setCell → aH, heap_alloc → bY
open Go.IntKind renaming i64 → bO, wrap_i64 → dI
open Go.AllReadyH renaming nil → dQ, cons → eU
open And renaming intro → aY
open Go.Proofs.Tryz
open List renaming getElem_toArray → aW, getElem_cons_zero → aV, getElem_cons_succ → aU, setIfInBounds_toArray → aT, set_cons_zero → aS, set_cons_succ → aR
set_option maxRecDepth 1000000
set_option maxHeartbeats 8000000
namespace Go.Proofs.YtgchnkgolclmgaaGreatDoor.W.Tr
open Go.ChangeShapes Go.WideShapes Go.RowKit Go.Shelf
set_option linter.unusedVariables false
set_option linter.unusedSimpArgs false
section
variable {W0 W w':World} {rb:Nat} {l:ByteArray} {st st':Se} {y y' z:Yd} {s s':Cs} {L:List (Nat × Fo)} {p:Nt} {f:jv}
def LkB(W:World)(l:ByteArray)(m:Nat)(y:Yd)(rest:List Yd)(a4 a6:Nat)(n:Int)(wc:World):Prop:=W.heap.size<=a4/\W.heap.size<=a6/\a4≠a6/\wc.heap[a4]? = some (.cells (dA y) 36 (0,0))/\wc.heap[a6]? = some (.cells #[.int .i64 y.c,.int .i64 y.f] 25 (0,0))/\Below W.heap.size W wc/\Gn l m y rest n
theorem OH{rb:Nat}{l:ByteArray}{y t:Yd}{n o c f:Int}{w:World}(h:w.heap[rb]? = some (.cells (yS l y n o c f) 38 (0,0)))(m:Int) :
  ((((((w.setCell ⟨rb,1,none⟩ (.int .i64 t.t.kind)).setCell ⟨rb,2,none⟩ (.int .i64 t.a)).setCell ⟨rb,3,none⟩ (.string t.t.text)).setCell ⟨rb,4,none⟩ (.int .i64 t.t.int)).setCell ⟨rb,5,none⟩ (.int .u64 t.t.bits)).setCell ⟨rb,6,none⟩ (.int .i64 m)).heap[rb]? = some (.cells (yS l t m o c f) 38 (0,0)):=
 aM (aM (aM (aM (aM (aM (c:=(yS l y n o c f).toList) h 1 _) 2 _) 3 _) 4 _) 5 _) 6 _
theorem Fg{rb k:Nat}(hk:¬k=rb){w:World}(v1 v2 v3 v4 v5 v6:Value) :
  ((((((w.setCell ⟨rb,1,none⟩ v1).setCell ⟨rb,2,none⟩ v2).setCell ⟨rb,3,none⟩ v3).setCell ⟨rb,4,none⟩ v4).setCell ⟨rb,5,none⟩ v5).setCell ⟨rb,6,none⟩ v6).heap[k]? = w.heap[k]?:=
 (aH _ _ _ _ hk).trans ((aH _ _ _ _ hk).trans ((aH _ _ _ _ hk).trans ((aH _ _ _ _ hk).trans ((aH _ _ _ _ hk).trans (aH _ _ _ _ hk)))))
theorem OG{rb:Nat}{a w:World}(h:It.bL (λk=>k=rb) a w)(v1 v2 v3 v4 v5 v6:Value) :
  It.bL (λk=>k=rb) a ((((((w.setCell ⟨rb,1,none⟩ v1).setCell ⟨rb,2,none⟩ v2).setCell ⟨rb,3,none⟩ v3).setCell ⟨rb,4,none⟩ v4).setCell ⟨rb,5,none⟩ v5).setCell ⟨rb,6,none⟩ v6):=
 (((((h.setCell (p:=⟨rb,1,none⟩) (.inl rfl) _).setCell (p:=⟨rb,2,none⟩) (.inl rfl) _).setCell (p:=⟨rb,3,none⟩) (.inl rfl) _).setCell (p:=⟨rb,4,none⟩) (.inl rfl) _).setCell (p:=⟨rb,5,none⟩) (.inl rfl) _).setCell (p:=⟨rb,6,none⟩) (.inl rfl) _
theorem tY{n o:Int}(hr:W.heap[rb]? = some (.cells (yS l y n o 0 0) 38 (0,0)))(hs:l.size<=6000)(m:Nat)(hm:m<=l.size)(ho:o<=64)(hlo:-(m:Int)-1<=o) :
  Calls prog 8 #[ptr rb,.int .i64 (m:Nat)] W λx w'=>x=.returned (.tuple #[])/\It.bL (λk=>k=rb) W w'/\∃y',Rd w' rb l (iJ ⟨T (l.data.toList.drop m) m,o⟩) y':=by
 have c0:W.cell? ⟨rb,0,none⟩=some (.string l):=aA hr 0
 have c8:W.cell? ⟨rb,8,none⟩=some (.int .i64 0):=aA hr 8
 have lt:=(aL.1 hr).1
 have CB:∀w,Calls prog 24 #[.string l,.int .i64 (m:Nat)] w λx w'=>w'=w/\∃k:Nat,x=.returned (.int .i64 k)/\m<=k/\k<=l.size/\T (l.data.toList.drop m) m=T (l.data.toList.drop k) k/\pV (l.data.toList.drop k):=λw=>CY l (by omega) m hm w
 have CX:∀k:Nat,(m<=k/\k<=l.size/\T (l.data.toList.drop m) m=T (l.data.toList.drop k) k/\pV (l.data.toList.drop k))->∀w,Calls prog 23 #[.string l,.int .i64 (k:Nat)] w λx w'=>(∃yy rest n',x=.returned (.tuple #[.agg #[.int .i64 yy.t.kind,.int .i64 yy.a,.string yy.t.text,.int .i64 yy.t.int,.int .u64 yy.t.bits],.int .i64 n',.agg #[.int .i64 yy.c,.int .i64 yy.f]])/\Gn l m yy rest n')/\Below w.heap.size w w':=by
  rintro k ⟨h1,h2,h3,h4⟩ w
  obtain⟨yy,rest,n',q1,q2⟩:=yx l m k h1 h2 h3 h4
  refine(yU l (by omega) k h2 w).mono ?_
  rintro x w' ⟨rfl,hb⟩
  rw[q1]
  exact⟨⟨yy,rest,n',rfl,q2⟩,hb⟩
 have HR:=hid (aY hr (aY ho (aY hlo lt)))
 have XL:=hid CB
 have XK:=hid CX
 clear hr ho hlo CB CX hs hm
 go_enter func8,ntmps8
 go_upto_region 1 with fail
 go_cut [4,5,6] (λv4 v5 v6 wc=>∃ (a4 a6:Nat) (yy:Yd) (rest:List Yd) (n':Int),v4=ptr a4/\v5=.int .i64 n'/\v6=ptr a6/\LkB W l m yy rest a4 a6 n' wc)
 case first=>
  have lt:=HR.out.2.2.2
  refine wp_region_held_drew (S:=λw'=>w'.heap[rb]? = W.heap[rb]?) (by kernel_rfl) rfl ?_
  intro hS
  have bf:Below W.heap.size W W.drew:=(Below.refl _ W).drew
  generalize W.drew=w0 at *
  iterate 9 ((refine It.nH 0 ?_ rfl (by kernel_rfl) (λ_ _ _ h=>h) (Or.inl ⟨by rfl,?_⟩) hS ?_);rotate_left;(focus (intro w' hSw;((have e0:w'.cell? ⟨rb,0,none⟩=some (.string l):=aA (hSw.trans HR.out.1) 0));go_simp;(try with_reducible rfl)));(try simp only[Act.put,aW,aV,aU,aT,aS,aR]))
  iterate 4
   all_goals (first|refine wpAnyH_ready (rs:=[9,15,16]) (by decide +kernel) (by simp) ?_|refine wpAnyH_ready (rs:=[9,15]) (by decide +kernel) (by simp) ?_|refine wpAnyH_ready (rs:=[9,16]) (by decide +kernel) (by simp) ?_|refine wpAnyH_ready (rs:=[9]) (by decide +kernel) (by simp) ?_|refine wpAnyH_ready (rs:=[10,15,16]) (by decide +kernel) (by simp) ?_|refine wpAnyH_ready (rs:=[10,15]) (by decide +kernel) (by simp) ?_|refine wpAnyH_ready (rs:=[10,16]) (by decide +kernel) (by simp) ?_|refine wpAnyH_ready (rs:=[10]) (by decide +kernel) (by simp) ?_|refine wpAnyH_ready (rs:=[15,16]) (by decide +kernel) (by simp) ?_|refine wpAnyH_ready (rs:=[15]) (by decide +kernel) (by simp) ?_|refine wpAnyH_ready (rs:=[16]) (by decide +kernel) (by simp) ?_)
   repeat' (first|exact dQ|refine eU rfl (λK hK=>?_) ?_)
   all_goals (go_simp;first|(refine(XL.out _).mono ?_;rintro x wb ⟨hwb,k,rfl,hK2⟩;(have Sv:=hwb.symm);subst Sv;clear hwb;(have HK:=hid hK2);clear hK2;refine hK.out _ _ hS (λhS2=>?_);clear hK K hS;(have hS:=hS2);clear hS2;(try simp only[Act.put,aW,aV,aU,aT,aS,aR]))|(refine(XK.out _ HK.out _).mono ?_;rintro x w1 ⟨⟨yy,rest,n9,rfl,hF⟩,hB⟩;(have HF:=hid hF);clear hF;refine hK.out _ _ ((hB.block rb (dR lt bf.size)).trans hS) (λhS2=>?_);clear hK K hS;(have hS:=hS2);clear hS2;(try simp only[Act.put,aW,aV,aU,aT,aS,aR]);(try (replace hx4:=(hB.block a4 (aL.1 hx4).1).trans hx4));(try (replace hx6:=(hB.block a6 (aL.1 hx6).1).trans hx6));(replace bf:=bf.trans (hB.mono bf.size));clear hB;clear w0;(rename World=>w0);(refine wpAnyH_take (i:=11) (v:=?_) rfl (by kernel_rfl) (by kernel_rfl) (by kernel_rfl) (λ_ _ _ h=>h) (Or.inl ⟨by rfl,?_⟩) hS ?_);rotate_left;(focus (intro w' hSw;(skip);go_simp;(try with_reducible rfl)));(try simp only[Act.put,aW,aV,aU,aT,aS,aR]);(refine wpAnyH_take (i:=12) (v:=?_) rfl (by kernel_rfl) (by kernel_rfl) (by kernel_rfl) (λ_ _ _ h=>h) (Or.inl ⟨by rfl,?_⟩) hS ?_);rotate_left;(focus (intro w' hSw;(skip);go_simp;(try with_reducible rfl)));(try simp only[Act.put,aW,aV,aU,aT,aS,aR]);(refine wpAnyH_take (i:=13) (v:=?_) rfl (by kernel_rfl) (by kernel_rfl) (by kernel_rfl) (λ_ _ _ h=>h) (Or.inl ⟨by rfl,?_⟩) hS ?_);rotate_left;(focus (intro w' hSw;(skip);go_simp;(try with_reducible rfl)));(try simp only[Act.put,aW,aV,aU,aT,aS,aR]);(refine wpAnyH_take (i:=14) (v:=?_) rfl (by kernel_rfl) (by kernel_rfl) (by kernel_rfl) (λ_ _ _ h=>h) (Or.inl ⟨by rfl,?_⟩) hS ?_);rotate_left;(focus (intro w' hSw;(skip);go_simp;(try with_reducible rfl)));(try simp only[Act.put,aW,aV,aU,aT,aS,aR]))|(refine hK.out _ (ay w0 (.cells #[.int .i64 0,.int .i64 0,.string ⟨#[]⟩,.int .i64 0,.int .u64 0] 36)) ((bY _ _ _ (dR lt bf.size)).trans hS) (λhS2=>?_);clear hK K hS;(have hS:=hS2);clear hS2;(try simp only[Act.put,aW,aV,aU,aT,aS,aR]);(have hx4:=gI w0 (.cells #[.int .i64 0,.int .i64 0,.string ⟨#[]⟩,.int .i64 0,.int .u64 0] 36));(have g4:=bf.size);(try (have n46:Array.size (World.heap w0)≠a6:=by have lo:=(aL.1 hx6).1;omega));(try (replace hx6:=(bY w0 (.cells #[.int .i64 0,.int .i64 0,.string ⟨#[]⟩,.int .i64 0,.int .u64 0] 36) a6 (aL.1 hx6).1).trans hx6));(have xO:=bf.alloc bf.size (.cells #[.int .i64 0,.int .i64 0,.string ⟨#[]⟩,.int .i64 0,.int .u64 0] 36));clear bf;(have bf:=xO);clear xO;generalize ay w0 _=w2 at *;generalize Array.size (World.heap w0)=a4 at *;clear w0;(rename World=>w0))|(refine hK.out _ (ay w0 (.cells #[.int .i64 0,.int .i64 0] 25)) ((bY _ _ _ (dR lt bf.size)).trans hS) (λhS2=>?_);clear hK K hS;(have hS:=hS2);clear hS2;(try simp only[Act.put,aW,aV,aU,aT,aS,aR]);(have hx6:=gI w0 (.cells #[.int .i64 0,.int .i64 0] 25));(have g6:=bf.size);(try (have n46:a4≠Array.size (World.heap w0):=by have lo:=(aL.1 hx4).1;omega));(try (replace hx4:=(bY w0 (.cells #[.int .i64 0,.int .i64 0] 25) a4 (aL.1 hx4).1).trans hx4));(have xO:=bf.alloc bf.size (.cells #[.int .i64 0,.int .i64 0] 25));clear bf;(have bf:=xO);clear xO;generalize ay w0 _=w2 at *;generalize Array.size (World.heap w0)=a6 at *;clear w0;(rename World=>w0)))
  all_goals
   have z4:=aC hx4
   have e4:=aA hx4
   refine wpAnyH_ready (rs:=[17]) (by kernel_rfl) (by simp) ?_
   refine eU rfl (λK hK=>?_) dQ
   go_simp
   refine hK.out _ _ ((iV (gb:=a4) (k:=rb) (by omega) _ _ _ _ _).trans hS) (λhS2=>?_)
   clear hK K hS
   (have hS:=hS2);clear hS2
   (try simp only[Act.put,aW,aV,aU,aT,aS,aR])
   refine wpAnyH_ready (rs:=[18]) (by kernel_rfl) (by simp) ?_
   refine eU rfl (λK hK=>?_) dQ
   go_simp
   refine hK.out _ _ hS (λhS2=>?_)
   clear hK K hS
   (have hS:=hS2);clear hS2
   (try simp only[Act.put,aW,aV,aU,aT,aS,aR])
   clear e4
   have NI:=jT bf g4 (.int .i64 yy.t.kind) (.int .i64 yy.a) (.string yy.t.text) (.int .i64 yy.t.int) (.int .u64 yy.t.bits)
   have Sr:=gK hx4 (.int .i64 yy.t.kind) (.int .i64 yy.a) (.string yy.t.text) (.int .i64 yy.t.int) (.int .u64 yy.t.bits)
   have Ey:=(iV (gb:=a4) (k:=a6) (λe=>n46 e.symm) (.int .i64 yy.t.kind) (.int .i64 yy.a) (.string yy.t.text) (.int .i64 yy.t.int) (.int .u64 yy.t.bits)).trans hx6
   generalize World.setCell _ _ _=w8 at *
   clear hx4 hx6 z4 bf
   have z6:=aC Ey
   have e6:=aA Ey
   refine wpAnyH_ready (rs:=[19]) (by kernel_rfl) (by simp) ?_
   refine eU rfl (λK hK=>?_) dQ
   go_simp
   refine hK.out _ _ ((aH _ _ _ _ (by show ¬rb=a6;omega)).trans ((aH _ _ _ _ (by show ¬rb=a6;omega)).trans hS)) (λhS2=>?_)
   clear hK K hS hS2 e6
   (try simp only[Act.put,aW,aV,aU,aT,aS,aR])
   have bf:=(NI.setCell (p:=⟨a6,0,none⟩) g6 (.int .i64 yy.c)).setCell (p:=⟨a6,1,none⟩) g6 (.int .i64 yy.f)
   have hx6:=aM (aM (c:=[.int .i64 0,.int .i64 0]) Ey 0 (.int .i64 yy.c)) 1 (.int .i64 yy.f)
   have hx4:=(aH (w8.setCell ⟨a6,0,none⟩ (.int .i64 yy.c)) ⟨a6,1,none⟩ (.int .i64 yy.f) a4 n46).trans ((aH w8 ⟨a6,0,none⟩ (.int .i64 yy.c) a4 n46).trans Sr)
   refine wpAnyH_done (by kernel_rfl) ?_ _
   go_wp2
   go_meet
   case rel=>exact⟨a4,a6,yy,rest,n9,rfl,rfl,rfl,g4,g6,n46,hx4,hx6,bf,HF.out⟩
 case rest=>
  obtain⟨a4,a6,yy,rest,n',rfl,rfl,rfl,g4,g6,n46,hx4,hx6,bf,hF⟩:=hcut
  have lt:=HR.out.2.2.2
  have hrc:=(bf.block rb lt).trans HR.out.1
  have zr:=aC hrc
  have er:=aA hrc
  have e4:_:=(aA hx4:∀j,_ = #[Value.int .i64 yy.t.kind,.int .i64 yy.a,.string yy.t.text,.int .i64 yy.t.int,.int .u64 yy.t.bits][j]?)
  have HF:=hid hF
  have HCR:=hid hrc
  clear hF XL XK hrc c0 c8
  go_upto_region 3 with fail
  have hs:=OH (t:=yy) HCR.out n'
  have h4:=(Fg (rb:=rb) (k:=a4) (by omega) (.int .i64 yy.t.kind) (.int .i64 yy.a) (.string yy.t.text) (.int .i64 yy.t.int) (.int .u64 yy.t.bits) (.int .i64 n')).trans hx4
  have h6:=(Fg (rb:=rb) (k:=a6) (by omega) (.int .i64 yy.t.kind) (.int .i64 yy.a) (.string yy.t.text) (.int .i64 yy.t.int) (.int .u64 yy.t.bits) (.int .i64 n')).trans hx6
  have hu:=OG (rb:=rb) (It.bL.of_below (S:=λk=>k=rb) bf) (.int .i64 yy.t.kind) (.int .i64 yy.a) (.string yy.t.text) (.int .i64 yy.t.int) (.int .u64 yy.t.bits) (.int .i64 n')
  generalize World.setCell _ _ _=w6 at *
  clear hx4 hx6 bf zr er e4
  have zr:=aC hs
  have e6:=aA h6
  have q7:w6.cell? ⟨rb,7,none⟩=some (.int .i64 o):=aA hs 7
  have q8:w6.cell? ⟨rb,8,none⟩=some (.int .i64 0):=aA hs 8
  have q9:w6.cell? ⟨rb,9,none⟩=some (.int .i64 0):=aA hs 9
  have hcs:=hid HF.out
  rcases HF.out with⟨hT,hk,hF⟩
  have HT:=hid hT
  have HK:=hid hk
  clear hT hk
  by_cases hc:yy.c=0
  ·have cc:(yy.c != 0)=false:=by simp[hc]
   have e4:_:=(aA h4:∀j,_ = #[Value.int .i64 yy.t.kind,.int .i64 yy.a,.string yy.t.text,.int .i64 yy.t.int,.int .u64 yy.t.bits][j]?)
   have HF2:=hid hF
   have HC:=hid hc
   have HS:=hid hs
   have HH4:=hid h4
   have co:=Bw yy.t HK.out yy.a
   clear hF hc hs
   cases hop:dx yy.t
   ·rw[hop] at co
    have Xc:=hid hop
    clear hop
    go_wp2_with (go_at_call 25;(with_reducible refine(co _).mono ?_);rintro x w2 ⟨rfl,hB⟩)
    ((try simp only[Exit.inBlock,Exit.then]);first|(refine bodyPost_ret (results_none rfl _ _ _) rfl ?_)|(refine bodyPost_end (results_none rfl _ _ _) rfl ?_))
    refine⟨rfl,hu.trans' (It.bL.of_below hB),yy,?_⟩
    rw[HT.out,aj (y:=yy) (by simp[look,HC.out,Xc.out])]
    exact⟨n',o,0,0,aF HS.out hB,rfl,rfl,by simp[look,HC.out,Xc.out],HK.out,rfl,HR.out.2.1,rest,rfl,by
     rcases HF2.out with⟨q,_⟩|⟨_,q1,q2⟩|⟨_,q1,k,q2,q3,q4,q5⟩
     ·exact absurd HC.out q
     ·exact .inl ⟨q1,q2⟩
     ·exact .inr ⟨q1,k,q2,q4,by have:=HR.out.2.2.1;omega,q5⟩⟩
   ·rw[hop] at co
    have Xc:=hid hop
    clear hop
    by_cases ho:o=64
    ·have aA3:(o==64)=true:=by simp[ho]
     have HO:=hid ho
     clear ho
     go_wp2_with (go_at_call 25;(with_reducible refine(co _).mono ?_);rintro x w2 ⟨rfl,hB⟩;(have q72:w2.cell? ⟨rb,7,none⟩=some (.int .i64 o):=aA (aF HS.out hB) 7);(have zr2:=aC (aF HS.out hB));(have q82:w2.cell? ⟨rb,8,none⟩=some (.int .i64 0):=aA (aF HS.out hB) 8);(have q92:w2.cell? ⟨rb,9,none⟩=some (.int .i64 0):=aA (aF HS.out hB) 9);(have e42:w2.cell? ⟨a4,1,none⟩=some (.int .i64 yy.a):=aA (aF HH4.out hB) 1))
     ((try simp only[Exit.inBlock,Exit.then]);first|(refine bodyPost_ret (results_none rfl _ _ _) rfl ?_)|(refine bodyPost_end (results_none rfl _ _ _) rfl ?_))
     have t7:=aF HS.out hB
     have t8:=aM (c:=(yS l yy n' o 0 0).toList) t7 8 (.int .i64 71)
     have t9:=aM (c:=((yS l yy n' o 0 0).toList.set 8 (.int .i64 71))) t8 9 (.int .i64 yy.a)
     refine⟨rfl,((hu.trans' (It.bL.of_below hB)).setCell (p:=⟨rb,8,none⟩) (.inl rfl) _).setCell (p:=⟨rb,9,none⟩) (.inl rfl) _,yy,?_⟩
     rw[HT.out,fT (e:=(71,yy.a)) (by simp[look,HC.out,Xc.out,HO.out])]
     exact⟨n',o,71,yy.a,t9,rfl,rfl,by decide⟩
    ·have aA3:(o==64)=false:=by simp[ho]
     have HO:=hid ho
     clear ho
     go_wp2_with (go_at_call 25;(with_reducible refine(co _).mono ?_);rintro x w2 ⟨rfl,hB⟩;(have q72:w2.cell? ⟨rb,7,none⟩=some (.int .i64 o):=aA (aF HS.out hB) 7))
     ((try simp only[Exit.inBlock,Exit.then]);first|(refine bodyPost_ret (results_none rfl _ _ _) rfl ?_)|(refine bodyPost_end (results_none rfl _ _ _) rfl ?_))
     refine⟨rfl,hu.trans' (It.bL.of_below hB),yy,?_⟩
     have hlk:look ⟨yy::rest,o⟩=.ok yy:=by simp[look,HC.out,HO.out]
     rw[HT.out,aj hlk]
     exact⟨n',o,0,0,aF HS.out hB,rfl,rfl,hlk,HK.out,rfl,HR.out.2.1,rest,rfl,by
      rcases HF2.out with⟨q,_⟩|⟨_,q1,q2⟩|⟨_,q1,k,q2,q3,q4,q5⟩
      ·exact absurd HC.out q
      ·exact .inl ⟨q1,q2⟩
      ·exact .inr ⟨q1,k,q2,q4,by have:=HR.out.2.2.1;omega,q5⟩⟩
  ·have cc:(yy.c != 0)=true:=by simp[hc]
   have HF2:=hid hF
   have HC:=hid hc
   have HS:=hid hs
   clear hF hc hs
   go_wp2_with fail
   ((try simp only[Exit.inBlock,Exit.then]);first|(refine bodyPost_ret (results_none rfl _ _ _) rfl ?_)|(refine bodyPost_end (results_none rfl _ _ _) rfl ?_))
   have t8:=aM (c:=(yS l yy n' o 0 0).toList) HS.out 8 (.int .i64 yy.c)
   have t9:=aM (c:=((yS l yy n' o 0 0).toList.set 8 (.int .i64 yy.c))) t8 9 (.int .i64 yy.f)
   refine⟨rfl,(hu.setCell (p:=⟨rb,8,none⟩) (.inl rfl) _).setCell (p:=⟨rb,9,none⟩) (.inl rfl) _,yy,?_⟩
   rw[HT.out,fT (e:=(yy.c,yy.f)) (by simp[look,HC.out])]
   exact⟨n',o,yy.c,yy.f,t9,rfl,rfl,HC.out⟩
end
section
variable {W0 W w':World} {rb:Nat} {l:ByteArray} {st st':Se} {y y' z:Yd} {s s':Cs} {L:List (Nat × Fo)} {p:Nt} {f:jv}
theorem EX{t:Tk}(h:dx t=true):eP t=false:=by
 unfold dx at h
 unfold eP
 simp only[Bool.or_eq_true,decide_eq_true_eq] at h
 rcases h with(h|h)|h <;> rw[h] <;> decide
theorem Rx.past{w4:World}{m:Nat}{o1:Int}(h:Rx W0 W rb l (.ok s) y L){rest:List Yd}(h1:s.r=y::rest)(h2:rest=T (l.data.toList.drop m) m)(h3:o1=s.o+(if dx y.t=true then 1 else 0)-(if eP y.t=true then 1 else 0))(hu:It.bL (λk=>k=rb) W w4)(hr:Rd w4 rb l (iJ ⟨T (l.data.toList.drop m) m,o1⟩) y'):Rx W0 w4 rb l (bJ (.ok s)) y' L:=by
 have e:bJ (.ok s)=iJ ⟨T (l.data.toList.drop m) m,o1⟩:=by
  rw[gJ h.ok]
  unfold behind
  rw[h1,<- h2,h3]
  rfl
 refine h.next (st':=bJ (.ok s)) (by rw[e];exact hr) (Nat.le_of_lt (mu_step h.ok)) hu
theorem Rx.step(h:Rx W0 W rb l (.ok s) y L)(hk:y.t.kind≠7):Calls prog 12 #[ptr rb] W λx w'=>x=.returned (.tuple #[])/\∃y',Rx W0 w' rb l (bJ (.ok s)) y' L:=by
 obtain⟨n,o,c,g,h1,rfl,rfl,hl,hc,ho,ho2,rest,hr,hw⟩:=h.rd
 obtain⟨m,rfl,hm,hlo,hrest⟩:∃m:Nat,n=(m:Int)/\m<=l.size/\-(m:Int)<=o/\rest=T (l.data.toList.drop m) m:=by
  rcases hw with⟨q,_⟩|⟨_,q⟩
  ·exact absurd q hk
  ·exact q
 have hsz:=h.sz
 have cs:=h.cells
 obtain⟨_,c1,c2,c3,c4,c5⟩:=cs
 have JK:dx y.t=true->o≠64:=by
  intro q1 q2
  have:=hl
  unfold look at this
  rw[hr] at this
  dsimp only at this
  split at this
  ·split at this
   ·cases this
   ·rename_i q3
    exact q3 ⟨q1,by rw[ho,q2]⟩
  ·cases this
 have co:=Bw y.t hc y.a
 have HP:=hid (aY hr (aY hrest (aY ho (aY hsz hm))))
 have H:=h.ok
 clear hl hr hrest ho hw hsz hk
 cases hop:dx y.t
 ·rw[hop] at co
  cases q1:bR fM (.ok s)
  ·cases q2:bR zF (.ok s)
   ·cases q3:bR nC (.ok s)
    ·have hcl:eP y.t=false:=by
      unfold eP
      rw[Bool.or_eq_false_iff,Bool.or_eq_false_iff,decide_eq_false_iff_not,decide_eq_false_iff_not,decide_eq_false_iff_not]
      refine⟨⟨λe=>?_,λe=>?_⟩,λe=>?_⟩
      ·rw[(ak H).2 e] at q1;cases q1
      ·rw[(ak H).2 e] at q2;cases q2
      ·rw[(ak H).2 e] at q3;cases q3
     have E3:=hid (show o=s.o+(if dx y.t=true then 1 else 0)-(if eP y.t=true then 1 else 0) by rw[hop,hcl,HP.out.2.2.1];simp)
     have BD:=hid (aY ho2 hlo)
     clear hop hcl JK ho2 hlo H
     go_enter func12,ntmps12
     go_wp2_with (first|(go_at_call 10;(with_reducible refine(dH h).mono ?_);rintro x w2 ⟨rfl,hw⟩;(have hw':=hw.symm);subst hw';clear hw)|(go_at_call 25;(with_reducible refine(co _).mono ?_);rintro x w2 ⟨rfl,hB⟩;(have hx:=h.below hB);(have hT:=aF h1 hB);(have hU:=It.bL.of_below (S:=λk=>k=rb) hB);(have c7:w2.cell? ⟨rb,7,none⟩=some (.int .i64 o):=aA hT 7);(have c6:w2.cell? ⟨rb,6,none⟩=some (.int .i64 (m:Nat)):=aA hT 6);(have zz:=aC hT);clear hB)|(go_at_call 11;(with_reducible refine(Rx.nG hx _ (by decide) (by assumption)).mono ?_);rintro x w3 ⟨rfl,hw⟩;(have hw':=hw.symm);subst hw';clear hw)|(go_at_call 8;(with_reducible refine(tY hT HP.out.2.2.2.1 m HP.out.2.2.2.2 BD.out.1 (by have:=BD.out.2;omega)).mono ?_);rintro x w4 ⟨rfl,hu,y',hrd⟩))
     ((try simp only[Exit.inBlock,Exit.then]);first|(refine bodyPost_ret (results_none rfl _ _ _) rfl ?_)|(refine bodyPost_end (results_none rfl _ _ _) rfl ?_))
     exact⟨rfl,y',h.past HP.out.1 HP.out.2.1 E3.out (hU.trans' hu) hrd⟩
    ·have hcl:eP y.t=true:=by unfold eP;rw[(ak H).1 q3];decide
     obtain⟨o1,e0⟩:∃o1:Int,o1=o-1:=⟨_,rfl⟩
     have e1:bO.wrap (o-1)=o1:=by have:=HP.out;rw[dI];omega
     have e2:wrap64 (o-1)=o1:=by have:=HP.out;unfold wrap64;omega
     have E3:=hid (show o1=s.o+(if dx y.t=true then 1 else 0)-(if eP y.t=true then 1 else 0) by rw[hop,hcl,HP.out.2.2.1,e0];simp)
     have BD:=hid (show o1<=64/\-(m:Int)-1<=o1 by omega)
     clear hop hcl JK ho2 hlo H e0
     go_enter func12,ntmps12
     go_wp2_with (first|(go_at_call 10;(with_reducible refine(dH h).mono ?_);rintro x w2 ⟨rfl,hw⟩;(have hw':=hw.symm);subst hw';clear hw)|(go_at_call 25;(with_reducible refine(co _).mono ?_);rintro x w2 ⟨rfl,hB⟩;(have hx:=h.below hB);(have hT:=aF h1 hB);(have hU:=It.bL.of_below (S:=λk=>k=rb) hB);(have c7:w2.cell? ⟨rb,7,none⟩=some (.int .i64 o):=aA hT 7);(have c6:w2.cell? ⟨rb,6,none⟩=some (.int .i64 (m:Nat)):=aA hT 6);(have zz:=aC hT);clear hB)|((with_reducible (apply Calls.mono;first|exact Rx.lX hx _ (by decide) (by assumption)|exact Rx.nG hx _ (by decide) (by assumption)));rintro x w3 ⟨rfl,hw⟩;(have hw':=hw.symm);subst hw';clear hw)|(go_at_call 8;(have TD:(w2.setCell ⟨rb,7,none⟩ (.int .i64 o1)).heap[rb]? = some (.cells (yS l y m o1 0 0) 38 (0,0)):=aM (c:=(yS l y m o 0 0).toList) hT 7 (.int .i64 o1));(with_reducible refine(tY TD HP.out.2.2.2.1 m HP.out.2.2.2.2 BD.out.1 BD.out.2).mono ?_);rintro x w4 ⟨rfl,hu,y',hrd⟩))
     ((try simp only[Exit.inBlock,Exit.then]);first|(refine bodyPost_ret (results_none rfl _ _ _) rfl ?_)|(refine bodyPost_end (results_none rfl _ _ _) rfl ?_))
     exact⟨rfl,y',h.past HP.out.1 HP.out.2.1 E3.out ((hU.setCell (p:=⟨rb,7,none⟩) (.inl rfl) _).trans' hu) hrd⟩
   ·have hcl:eP y.t=true:=by unfold eP;rw[(ak H).1 q2];decide
    obtain⟨o1,e0⟩:∃o1:Int,o1=o-1:=⟨_,rfl⟩
    have e1:bO.wrap (o-1)=o1:=by have:=HP.out;rw[dI];omega
    have e2:wrap64 (o-1)=o1:=by have:=HP.out;unfold wrap64;omega
    have E3:=hid (show o1=s.o+(if dx y.t=true then 1 else 0)-(if eP y.t=true then 1 else 0) by rw[hop,hcl,HP.out.2.2.1,e0];simp)
    have BD:=hid (show o1<=64/\-(m:Int)-1<=o1 by omega)
    clear hop hcl JK ho2 hlo H e0
    go_enter func12,ntmps12
    go_wp2_with (first|(go_at_call 10;(with_reducible refine(dH h).mono ?_);rintro x w2 ⟨rfl,hw⟩;(have hw':=hw.symm);subst hw';clear hw)|(go_at_call 25;(with_reducible refine(co _).mono ?_);rintro x w2 ⟨rfl,hB⟩;(have hx:=h.below hB);(have hT:=aF h1 hB);(have hU:=It.bL.of_below (S:=λk=>k=rb) hB);(have c7:w2.cell? ⟨rb,7,none⟩=some (.int .i64 o):=aA hT 7);(have c6:w2.cell? ⟨rb,6,none⟩=some (.int .i64 (m:Nat)):=aA hT 6);(have zz:=aC hT);clear hB)|((with_reducible (apply Calls.mono;first|exact Rx.lX hx _ (by decide) (by assumption)|exact Rx.nG hx _ (by decide) (by assumption)));rintro x w3 ⟨rfl,hw⟩;(have hw':=hw.symm);subst hw';clear hw)|(go_at_call 8;(have TD:(w2.setCell ⟨rb,7,none⟩ (.int .i64 o1)).heap[rb]? = some (.cells (yS l y m o1 0 0) 38 (0,0)):=aM (c:=(yS l y m o 0 0).toList) hT 7 (.int .i64 o1));(with_reducible refine(tY TD HP.out.2.2.2.1 m HP.out.2.2.2.2 BD.out.1 BD.out.2).mono ?_);rintro x w4 ⟨rfl,hu,y',hrd⟩))
    ((try simp only[Exit.inBlock,Exit.then]);first|(refine bodyPost_ret (results_none rfl _ _ _) rfl ?_)|(refine bodyPost_end (results_none rfl _ _ _) rfl ?_))
    exact⟨rfl,y',h.past HP.out.1 HP.out.2.1 E3.out ((hU.setCell (p:=⟨rb,7,none⟩) (.inl rfl) _).trans' hu) hrd⟩
  ·have hcl:eP y.t=true:=by unfold eP;rw[(ak H).1 q1];decide
   obtain⟨o1,e0⟩:∃o1:Int,o1=o-1:=⟨_,rfl⟩
   have e1:bO.wrap (o-1)=o1:=by have:=HP.out;rw[dI];omega
   have e2:wrap64 (o-1)=o1:=by have:=HP.out;unfold wrap64;omega
   have E3:=hid (show o1=s.o+(if dx y.t=true then 1 else 0)-(if eP y.t=true then 1 else 0) by rw[hop,hcl,HP.out.2.2.1,e0];simp)
   have BD:=hid (show o1<=64/\-(m:Int)-1<=o1 by omega)
   clear hop hcl JK ho2 hlo H e0
   go_enter func12,ntmps12
   go_wp2_with (first|(go_at_call 10;(with_reducible refine(dH h).mono ?_);rintro x w2 ⟨rfl,hw⟩;(have hw':=hw.symm);subst hw';clear hw)|(go_at_call 25;(with_reducible refine(co _).mono ?_);rintro x w2 ⟨rfl,hB⟩;(have hx:=h.below hB);(have hT:=aF h1 hB);(have hU:=It.bL.of_below (S:=λk=>k=rb) hB);(have c7:w2.cell? ⟨rb,7,none⟩=some (.int .i64 o):=aA hT 7);(have c6:w2.cell? ⟨rb,6,none⟩=some (.int .i64 (m:Nat)):=aA hT 6);(have zz:=aC hT);clear hB)|((with_reducible (apply Calls.mono;first|exact Rx.lX hx _ (by decide) (by assumption)|exact Rx.nG hx _ (by decide) (by assumption)));rintro x w3 ⟨rfl,hw⟩;(have hw':=hw.symm);subst hw';clear hw)|(go_at_call 8;(have TD:(w2.setCell ⟨rb,7,none⟩ (.int .i64 o1)).heap[rb]? = some (.cells (yS l y m o1 0 0) 38 (0,0)):=aM (c:=(yS l y m o 0 0).toList) hT 7 (.int .i64 o1));(with_reducible refine(tY TD HP.out.2.2.2.1 m HP.out.2.2.2.2 BD.out.1 BD.out.2).mono ?_);rintro x w4 ⟨rfl,hu,y',hrd⟩))
   ((try simp only[Exit.inBlock,Exit.then]);first|(refine bodyPost_ret (results_none rfl _ _ _) rfl ?_)|(refine bodyPost_end (results_none rfl _ _ _) rfl ?_))
   exact⟨rfl,y',h.past HP.out.1 HP.out.2.1 E3.out ((hU.setCell (p:=⟨rb,7,none⟩) (.inl rfl) _).trans' hu) hrd⟩
 ·rw[hop] at co
  have hcl:=EX hop
  have hn:=JK hop
  obtain⟨o1,e0⟩:∃o1:Int,o1=o+1:=⟨_,rfl⟩
  have e1:bO.wrap (o+1)=o1:=by have:=HP.out;rw[dI];omega
  have e2:wrap64 (o+1)=o1:=by have:=HP.out;unfold wrap64;omega
  have E3:=hid (show o1=s.o+(if dx y.t=true then 1 else 0)-(if eP y.t=true then 1 else 0) by rw[hop,hcl,HP.out.2.2.1,e0];simp)
  have BD:=hid (show o1<=64/\-(m:Int)-1<=o1 by omega)
  clear hop hcl JK ho2 hlo H hn e0
  go_enter func12,ntmps12
  go_wp2_with (first|(go_at_call 10;(with_reducible refine(dH h).mono ?_);rintro x w2 ⟨rfl,hw⟩;(have hw':=hw.symm);subst hw';clear hw)|(go_at_call 25;(with_reducible refine(co _).mono ?_);rintro x w2 ⟨rfl,hB⟩;(have hx:=h.below hB);(have hT:=aF h1 hB);(have hU:=It.bL.of_below (S:=λk=>k=rb) hB);(have c7:w2.cell? ⟨rb,7,none⟩=some (.int .i64 o):=aA hT 7);(have c6:w2.cell? ⟨rb,6,none⟩=some (.int .i64 (m:Nat)):=aA hT 6);(have zz:=aC hT);clear hB)|(go_at_call 8;(have TD:(w2.setCell ⟨rb,7,none⟩ (.int .i64 o1)).heap[rb]? = some (.cells (yS l y m o1 0 0) 38 (0,0)):=aM (c:=(yS l y m o 0 0).toList) hT 7 (.int .i64 o1));(with_reducible refine(tY TD HP.out.2.2.2.1 m HP.out.2.2.2.2 BD.out.1 BD.out.2).mono ?_);rintro x w4 ⟨rfl,hu,y',hrd⟩))
  ((try simp only[Exit.inBlock,Exit.then]);first|(refine bodyPost_ret (results_none rfl _ _ _) rfl ?_)|(refine bodyPost_end (results_none rfl _ _ _) rfl ?_))
  exact⟨rfl,y',h.past HP.out.1 HP.out.2.1 E3.out ((hU.setCell (p:=⟨rb,7,none⟩) (.inl rfl) _).trans' hu) hrd⟩
theorem Rx.bJ(h:Rx W0 W rb l (.error f) y L):Calls prog 12 #[ptr rb] W λx w'=>x=.returned (.tuple #[])/\∃y',Rx W0 w' rb l (.error f) y' L:=by
 have H:=hid h
 go_enter func12,ntmps12
 go_wp2_with (go_at_call 10;(with_reducible refine(ji h).mono ?_);rintro x w2 ⟨rfl,hw⟩;(have hw':=hw.symm);subst hw';clear hw)
 ((try simp only[Exit.inBlock,Exit.then]);first|(refine bodyPost_ret (results_none rfl _ _ _) rfl ?_)|(refine bodyPost_end (results_none rfl _ _ _) rfl ?_))
 exact⟨rfl,y,H.out⟩
theorem Ob(hs:look s=.ok y){w:ByteArray}(hw:w≠⟨#[]⟩)(g:bR w (.ok s)=true):y.t.kind≠7:=by
 intro e
 have:=(ak hs).1 g
 unfold aG at this
 rw[if_neg (by omega)] at this
 exact hw this.symm
theorem Rx.stepT(h:Rx W0 W rb l st y L)(w:ByteArray)(hw:w≠⟨#[]⟩)(g:bR w st=true):Calls prog 12 #[ptr rb] W λx w'=>x=.returned (.tuple #[])/\∃y',Rx W0 w' rb l (Tr.bJ st) y' L:=by
 cases st with
 | error f=>cases g
 | ok s=>exact h.step (Ob h.ok hw g)
theorem Rx.want(h:Rx W0 W rb l st y L)(w:ByteArray)(hw:w≠⟨#[]⟩):Calls prog 14 #[ptr rb,.string w] W λx w'=>x=.returned (.int .i64 y.a)/\∃y',Rx W0 w' rb l (Tr.aN w st) y' L:=by
 obtain⟨_,_,c2,_,_,_⟩:=h.cells
 unfold Tr.aN
 cases g:bR w st
 ·rw[if_neg (by simp)]
  go_enter func14,ntmps14
  go_wp2_with (first|(go_at_call 11;(with_reducible refine(Rx.nG h w hw g).mono ?_);rintro x w3 ⟨rfl,hw⟩;(have hw':=hw.symm);subst hw';clear hw)|(go_at_call 16;(with_reducible refine(Rx.wrong h).mono ?_);rintro x w3 ⟨b,rfl,hx⟩))
  go_ret
  exact⟨rfl,y,hx.sub (by intro p hp;exact List.mem_cons_of_mem _ hp)⟩
 ·rw[if_pos rfl]
  go_enter func14,ntmps14
  go_wp2_with (first|(go_at_call 11;(with_reducible refine(Rx.lX h w hw g).mono ?_);rintro x w3 ⟨rfl,hw⟩;(have hw':=hw.symm);subst hw';clear hw)|(go_at_call 12;(with_reducible refine(Rx.stepT h w hw g).mono ?_);rintro x w3 ⟨rfl,y',hx⟩))
  go_ret
  exact⟨rfl,y',hx⟩
end
section
variable {W0 W w':World} {rb:Nat} {l:ByteArray} {st st':Se} {y y' z:Yd} {s s':Cs} {L L':List (Nat × Fo)} {p:Nt} {f:jv}
theorem Rx.merge(h:Rx W0 W rb l st y L)(h2:Rx W w' rb l st' y' L')(hm:mu st'<=mu st):Rx W0 w' rb l st' y' L:=h.next h2.rd hm h2.upd
theorem Rx.five{gb:Nat}(h:Rx W0 W rb l st y L)(W1:World)(hW:Rx W1 W rb l st y [])(hg:W1.heap.size<=gb)(h0:It.bL (λk=>k=rb) W0 W1)(v0 v1 v2 v3 v4:Value)(hr:¬rb=gb)(hts:∀p ∈ L,cZ (((((W.setCell ⟨gb,0,none⟩ v0).setCell ⟨gb,1,none⟩ v1).setCell ⟨gb,2,none⟩ v2).setCell ⟨gb,3,none⟩ v3).setCell ⟨gb,4,none⟩ v4) (λk=>W0.heap.size<=k) [p.1] p.2)(hgl:gb<W.heap.size):Rx W0 (((((W.setCell ⟨gb,0,none⟩ v0).setCell ⟨gb,1,none⟩ v1).setCell ⟨gb,2,none⟩ v2).setCell ⟨gb,3,none⟩ v3).setCell ⟨gb,4,none⟩ v4) rb l st y L:=
 ⟨h.rd.on (iV hr _ _ _ _ _),h.sz,h.mb,lM h.upd (.inr ⟨Nat.le_trans h0.size hg,hgl⟩) _ _ _ _ _,h.lt,hts⟩
structure Nb (W0 W w:World) (rb:Nat) (l:ByteArray) (st:Se) (y y':Yd) (L:List (Nat × Fo)):Prop where
 bf:It.bL (λk=>k=rb) W w
 g2:w.heap[W.heap.size]? = some (.cells #[.int .i64 0,.int .i64 0,.string ⟨#[]⟩,.int .i64 0,.int .u64 0] 36 (0,0))
 g3:w.heap[W.heap.size+1]? = some (.cells (dA y) 36 (0,0))
 rx:Rx W0 w rb l st y' L
theorem Nb.start(h:Rx W0 W rb l st y L):Nb W0 W ((W.alloc (.cells #[.int .i64 0,.int .i64 0,.string ⟨#[]⟩,.int .i64 0,.int .u64 0] 36)).alloc (.cells #[.int .i64 y.t.kind,.int .i64 y.a,.string y.t.text,.int .i64 y.t.int,.int .u64 y.t.bits] 36)) rb l st y y L:=by
 refine⟨It.bL.of_below (((Below.refl _ W).alloc (Nat.le_refl _) _).alloc (by simp) _),(bY _ _ _ (by simp)).trans (gI W _),?_,(h.alloc _).alloc _⟩
 have:=gI (W.alloc (.cells #[.int .i64 0,.int .i64 0,.string ⟨#[]⟩,.int .i64 0,.int .u64 0] 36)) (.cells #[.int .i64 y.t.kind,.int .i64 y.a,.string y.t.text,.int .i64 y.t.int,.int .u64 y.t.bits] 36)
 rwa [World.size_alloc] at this
theorem Nb.go{w w3:World}(b:Nb W0 W w rb l st y y' L)(h:Rx w w3 rb l st' z L')(hm:mu st'<=mu st)(hrb:rb<W.heap.size):Nb W0 W w3 rb l st' y z L:=by
 have l2:=(aL.1 b.g2).1
 have l3:=(aL.1 b.g3).1
 exact⟨b.bf.trans' h.upd,(h.upd.block _ l2 (by omega)).trans b.g2,(h.upd.block _ l3 (by omega)).trans b.g3,b.rx.merge h hm⟩
theorem Nb.fin{w:World}(b:Nb W0 W w rb l st y y' L)(h0:Rx W0 W rb l st' z L)(hrb:rb<W.heap.size)(v0 v1 v2 v3 v4:Value):Rx W0 (((((w.setCell ⟨W.heap.size,0,none⟩ v0).setCell ⟨W.heap.size,1,none⟩ v1).setCell ⟨W.heap.size,2,none⟩ v2).setCell ⟨W.heap.size,3,none⟩ v3).setCell ⟨W.heap.size,4,none⟩ v4) rb l st y' L:=by
 have l2:=(aL.1 b.g2).1
 have hu:=h0.upd.size
 refine⟨b.rx.rd.on (iV (by omega) _ _ _ _ _),b.rx.sz,b.rx.mb,lM b.rx.upd (.inr ⟨hu,l2⟩) _ _ _ _ _,b.rx.lt,?_⟩
 intro p hp
 have h1:=h0.ts p hp
 have hU:It.bL (λk=>k=rb) W (((((w.setCell ⟨W.heap.size,0,none⟩ v0).setCell ⟨W.heap.size,1,none⟩ v1).setCell ⟨W.heap.size,2,none⟩ v2).setCell ⟨W.heap.size,3,none⟩ v3).setCell ⟨W.heap.size,4,none⟩ v4):=lM b.bf (.inr ⟨Nat.le_refl _,l2⟩) _ _ _ _ _
 exact h1.upd h0.lt hU
theorem Rx.name(h:Rx W0 W rb l st y L):Calls prog 13 #[ptr rb] W λx w'=>x=.returned (.agg #[.int .i64 y.t.kind,.int .i64 y.a,.string y.t.text,.int .i64 y.t.int,.int .u64 y.t.bits])/\∃y',Rx W0 w' rb l (bP st) y' L:=by
 have HH:=hid h
 have hlt:=h.Ed
 have hb:=Nb.start h
 generalize hst:bP st=sf
 have HST:=hid hst
 clear hst
 clear h hlt
 go_enter func13,ntmps13
 go_upto_region 1 with fail
 have hz:(W.alloc (.cells #[.int .i64 0,.int .i64 0,.string ⟨#[]⟩,.int .i64 0,.int .u64 0] 36)).heap.size=W.heap.size+1:=World.size_alloc _ _
 obtain⟨_,c1,c2,c3,c4,c5⟩:=(HH.out.alloc (.cells #[.int .i64 0,.int .i64 0,.string ⟨#[]⟩,.int .i64 0,.int .u64 0] 36)).cells
 generalize ay W _=W1 at *
 go_upto_region 2 with fail
 (try simp only[hz])
 generalize ay W1 _=W2 at *
 clear c1 c2 c3 c4 c5 hz
 have x0:W2.cell? ⟨W.heap.size+1,0,none⟩=some (.int .i64 y.t.kind):=aA hb.g3 0
 cases hk:ow 1 st
 ·have hE:sf=jI st:=by rw[<- HST.out];unfold bP;rw[hk];rfl
  have HE:=hid hE
  clear hE
  have hgo:∀w3 b,Rx W2 w3 rb l (jI st) y ((b,Fo.one ⟨0,0,⟨#[]⟩,0,0⟩ .nil)::[])->Nb W0 W w3 rb l (jI st) y y L:=λw3 b q=>hb.go q (by rw[lK];exact Nat.zero_le _) HH.out.Ed
  have hw:=hb.rx.gP.wrong
  have U4:=hid hgo
  have hb0:=hb.rx
  clear hgo
  have fin:∀w3:World,Nb W0 W w3 rb l (jI st) y y L->True:=λ_ _=>trivial
  cases st with
  | error f=>
   go_wp2_with (first|(go_at_call 10;(with_reducible refine(ji hb0).mono ?_);rintro x w3 ⟨rfl,hw3⟩;(have hw':=hw3.symm);subst hw';clear hw3)|(go_at_call 16;(with_reducible refine hw.mono ?_);rintro x w3 ⟨b,rfl,hx⟩;(have HN:=hid (U4.out w3 b hx));(have q3:=HN.out.g3);(have x0:w3.cell? ⟨W.heap.size+1,0,none⟩=some (.int .i64 y.t.kind):=aA q3 0);(have x1:w3.cell? ⟨W.heap.size+1,1,none⟩=some (.int .i64 y.a):=aA q3 1);(have x2:w3.cell? ⟨W.heap.size+1,2,none⟩=some (.string y.t.text):=aA q3 2);(have x3:w3.cell? ⟨W.heap.size+1,3,none⟩=some (.int .i64 y.t.int):=aA q3 3);(have x4:w3.cell? ⟨W.heap.size+1,4,none⟩=some (.int .u64 y.t.bits):=aA q3 4);(have e2:=aA HN.out.g2);(have z2:=aC HN.out.g2);clear q3 hx))
   refine bodyPost_ret (lI rfl _ _ W.heap.size _ _ _ _ _ (0,0) rfl (gK HN.out.g2 _ _ _ _ _)) rfl ?_
   exact⟨rfl,y,by rw[HE.out];exact HN.out.fin HH.out HH.out.Ed _ _ _ _ _⟩
  | ok s=>
   have k1:(y.t.kind==1)=false:=by
    have:decide ((qA s).t.kind=1)=false:=hk
    rw[(dS HH.out.ok).1] at this
    simpa using this
   go_wp2_with (first|(go_at_call 10;(with_reducible refine(dH hb0).mono ?_);rintro x w3 ⟨rfl,hw3⟩;(have hw':=hw3.symm);subst hw';clear hw3)|(go_at_call 16;(with_reducible refine hw.mono ?_);rintro x w3 ⟨b,rfl,hx⟩;(have HN:=hid (U4.out w3 b hx));(have q3:=HN.out.g3);(have x0:w3.cell? ⟨W.heap.size+1,0,none⟩=some (.int .i64 y.t.kind):=aA q3 0);(have x1:w3.cell? ⟨W.heap.size+1,1,none⟩=some (.int .i64 y.a):=aA q3 1);(have x2:w3.cell? ⟨W.heap.size+1,2,none⟩=some (.string y.t.text):=aA q3 2);(have x3:w3.cell? ⟨W.heap.size+1,3,none⟩=some (.int .i64 y.t.int):=aA q3 3);(have x4:w3.cell? ⟨W.heap.size+1,4,none⟩=some (.int .u64 y.t.bits):=aA q3 4);(have e2:=aA HN.out.g2);(have z2:=aC HN.out.g2);clear q3 hx))
   refine bodyPost_ret (lI rfl _ _ W.heap.size _ _ _ _ _ (0,0) rfl (gK HN.out.g2 _ _ _ _ _)) rfl ?_
   exact⟨rfl,y,by rw[HE.out];exact HN.out.fin HH.out HH.out.Ed _ _ _ _ _⟩
 ·have hE:sf=Tr.bJ st:=by rw[<- HST.out];unfold bP;rw[hk];rfl
  have HE:=hid hE
  clear hE
  cases st with
  | error f=>cases hk
  | ok s=>
   have h1:y.t.kind=1:=by
    have:decide ((qA s).t.kind=1)=true:=hk
    rw[(dS HH.out.ok).1] at this
    simpa using this
   have k1:(y.t.kind==1)=true:=by simp[h1]
   have hw:=hb.rx.gP.step (by omega)
   have hgo:∀w3 y',Rx W2 w3 rb l (Tr.bJ (.ok s)) y' []->Nb W0 W w3 rb l (Tr.bJ (.ok s)) y y' L:=λw3 y' q=>hb.go q (Nat.le_of_lt (mu_step HH.out.ok)) HH.out.Ed
   have U4:=hid hgo
   have hb0:=hb.rx
   clear hgo h1
   go_wp2_with (first|(go_at_call 10;(with_reducible refine(dH hb0).mono ?_);rintro x w3 ⟨rfl,hw3⟩;(have hw':=hw3.symm);subst hw';clear hw3)|(go_at_call 12;(with_reducible refine hw.mono ?_);rintro x w3 ⟨rfl,y',hx⟩;(have HN:=hid (U4.out w3 y' hx));(have q3:=HN.out.g3);(have x0:w3.cell? ⟨W.heap.size+1,0,none⟩=some (.int .i64 y.t.kind):=aA q3 0);(have x1:w3.cell? ⟨W.heap.size+1,1,none⟩=some (.int .i64 y.a):=aA q3 1);(have x2:w3.cell? ⟨W.heap.size+1,2,none⟩=some (.string y.t.text):=aA q3 2);(have x3:w3.cell? ⟨W.heap.size+1,3,none⟩=some (.int .i64 y.t.int):=aA q3 3);(have x4:w3.cell? ⟨W.heap.size+1,4,none⟩=some (.int .u64 y.t.bits):=aA q3 4);(have e2:=aA HN.out.g2);(have z2:=aC HN.out.g2);clear q3 hx))
   refine bodyPost_ret (lI rfl _ _ W.heap.size _ _ _ _ _ (0,0) rfl (gK HN.out.g2 _ _ _ _ _)) rfl ?_
   exact⟨rfl,y',by rw[HE.out];exact HN.out.fin HH.out HH.out.Ed _ _ _ _ _⟩
def Em(st:Se):Se:=if ow 1 st=true then bJ st else st
def MC(st:Se)(y:Yd):ByteArray:=if ow 1 st=true then y.t.text else ⟨#[]⟩
theorem Rx.label(h:Rx W0 W rb l st y L):Calls prog 74 #[ptr rb] W λx w'=>x=.returned (.string (MC st y))/\∃y',Rx W0 w' rb l (Em st) y' L:=by
 obtain⟨_,c1,_,_,_,_⟩:=h.cells
 unfold Em MC
 cases hk:ow 1 st
 ·rw[if_neg (by simp),if_neg (by simp)]
  cases st with
  | error f=>
   go_enter func74,ntmps74
   go_wp2_with (go_at_call 10;(with_reducible refine(ji h).mono ?_);rintro x w3 ⟨rfl,hw3⟩;(have hw':=hw3.symm);subst hw';clear hw3)
   go_ret
   exact⟨rfl,y,h⟩
  | ok s=>
   have k1:(y.t.kind==1)=false:=by
    have:decide ((qA s).t.kind=1)=false:=hk
    rw[(dS h.ok).1] at this
    simpa using this
   go_enter func74,ntmps74
   go_wp2_with (go_at_call 10;(with_reducible refine(dH h).mono ?_);rintro x w3 ⟨rfl,hw3⟩;(have hw':=hw3.symm);subst hw';clear hw3)
   go_ret
   exact⟨rfl,y,h⟩
 ·rw[if_pos rfl,if_pos rfl]
  cases st with
  | error f=>cases hk
  | ok s=>
   have k1:(y.t.kind==1)=true:=by
    have:decide ((qA s).t.kind=1)=true:=hk
    rw[(dS h.ok).1] at this
    simpa using this
   have hn:=h.name
   unfold bP at hn
   rw[hk,if_pos rfl] at hn
   have tf:=Du (.int .i64 y.t.kind) (.int .i64 y.a) y.t.text (.int .i64 y.t.int) (.int .u64 y.t.bits)
   go_enter func74,ntmps74
   go_wp2_with (first|(go_at_call 10;(with_reducible refine(dH h).mono ?_);rintro x w3 ⟨rfl,hw3⟩;(have hw':=hw3.symm);subst hw';clear hw3)|(go_at_call 13;(with_reducible refine hn.mono ?_);rintro x w3 ⟨rfl,y',hx⟩;(have tf3:=tf w3)))
   go_ret
   exact⟨rfl,y',hx⟩
theorem Aa(k:Nat)(h3:3<=k)(h9:k<=9)(W:World):Calls prog 136 #[.int .i64 (k:Nat)] W λx w'=>x=.returned (.slice (some ⟨W.heap.size,0,none⟩) (dz k).length (dz k).length)/\w'=W.alloc (.cells ((dz k).map Value.string).toArray 9):=by
 rcases(by omega:k=3\/k=4\/k=5\/k=6\/k=7\/k=8\/k=9) with rfl|rfl|rfl|rfl|rfl|rfl|rfl
 all_goals
  go_enter func136,ntmps136
  go_wp2
  go_ret
  exact⟨rfl,rfl⟩
theorem getD_at{zs:List ByteArray}{j:Nat}(h:j<zs.length){d:ByteArray}:zs.getD j d=zs[j]:=by simp[List.getD_eq_getElem?_getD,h]
theorem Rx.aA7(h:Rx W0 W rb l st y L)(g:Nat)(zs:List ByteArray)(hn:zs.length<=10)(hz:∀j,j<zs.length->W.cell? ⟨g,j,none⟩=some (.string (zs.getD j ⟨#[]⟩)))(he:∀z ∈ zs,z≠⟨#[]⟩):Calls prog 135 #[ptr rb,.slice (some ⟨g,0,none⟩) zs.length zs.length] W λx w'=>x=.returned (.bool (pR zs st))/\w'=W:=by
 obtain⟨m,hm⟩:∃m,m=zs.length:=⟨_,rfl⟩
 have HH:=hid h
 have HZ:=hid hz
 have HE:=hid he
 have HM:=hid hm
 have HN:=hid hn
 have q1:∀k:Nat,k<=10->bO.wrap ((k:Int)+1)=((k+1:Nat):Int):=λk hk=>by rw[dI];omega
 have q2:∀k:Nat,k<=10->wrap64 ((k:Int)+1)=((k+1:Nat):Int):=λk hk=>by unfold wrap64;omega
 have HQ:=hid (aY q1 q2)
 clear h hz he q1 q2 hn
 rw[<- hm]
 clear hm
 go_enter func135,ntmps135
 go_wp2_with fail
 go_loopw [5] (λi wr=>wr=W/\∃k:Nat,i=.int .i64 k/\k<=m/\∀j,j<k->bR (zs.getD j ⟨#[]⟩) st=false) (λi _=>m-(intOf i).toNat)
 case atStart=>exact⟨rfl,0,rfl,Nat.zero_le _,λj hj=>absurd hj (Nat.not_lt_zero _)⟩
 case round=>
  obtain⟨rfl,k,rfl,hk,hj⟩:=hrel
  have HJ:=hid hj
  clear hj
  by_cases ck:k<m
  ·have c0:(k:Int)<(m:Int):=by omega
   have c1:(0:Int)<=(k:Int):=Int.natCast_nonneg _
   obtain⟨v1,v2⟩:bO.wrap ((k:Int)+1)=((k+1:Nat):Int)/\wrap64 ((k:Int)+1)=((k+1:Nat):Int):=⟨HQ.out.1 k (by have:=HM.out;have:=HN.out;omega),HQ.out.2 k (by have:=HM.out;have:=HN.out;omega)⟩
   have hc:=HZ.out k (by rw[<- HM.out];exact ck)
   have hne:zs.getD k ⟨#[]⟩≠⟨#[]⟩:=HE.out _ (by rw[getD_at (by rw[<- HM.out];exact ck)];exact List.getElem_mem _)
   have CK:=hid ck
   clear hk ck
   generalize hzk:zs.getD k ⟨#[]⟩=zk at *
   have hi:=HH.out.is zk hne
   have HZK:=hid hzk
   clear hzk hne
   cases g1:bR zk st
   ·rw[g1] at hi
    have G1:=hid g1
    clear g1
    go_wp2_with (go_at_call 11;(with_reducible refine hi.mono ?_);rintro x w3 ⟨rfl,hw3⟩;(have hw':=hw3.symm);subst hw';clear hw3)
    go_roundw
    case rel=>
     refine⟨by trivial,k+1,rfl,CK.out,λj hj=>?_⟩
     by_cases e:j=k
     ·rw[e,HZK.out];exact G1.out
     ·exact HJ.out j (by omega)
    case measure=>have:=CK.out;simp[intOf];omega
   ·rw[g1] at hi
    have G1:=hid g1
    clear g1
    go_wp2_with (go_at_call 11;(with_reducible refine hi.mono ?_);rintro x w3 ⟨rfl,hw3⟩;(have hw':=hw3.symm);subst hw';clear hw3)
    go_ret
    refine⟨?_,rfl⟩
    have:pR zs st=true:=by
     unfold pR
     rw[List.any_eq_true]
     refine⟨zs.getD k ⟨#[]⟩,?_,by rw[HZK.out];exact G1.out⟩
     rw[getD_at (by rw[<- HM.out];exact CK.out)]
     exact List.getElem_mem _
    rw[this]
    rfl
  ·have c0:¬ (k:Int)<(m:Int):=by omega
   have CK:=hid ck
   clear hk ck
   go_wp2_with fail
   go_ret
   refine⟨?_,rfl⟩
   have:pR zs st=false:=by
    unfold pR
    rw[List.any_eq_false]
    intro z hz
    obtain⟨j,hj,rfl⟩:=List.mem_iff_getElem.1 hz
    have:=HJ.out j (by have:=CK.out;have:=HM.out;omega)
    rw[getD_at hj] at this
    simp[this]
   rw[this]
   rfl
end
end Go.Proofs.YtgchnkgolclmgaaGreatDoor.W.Tr

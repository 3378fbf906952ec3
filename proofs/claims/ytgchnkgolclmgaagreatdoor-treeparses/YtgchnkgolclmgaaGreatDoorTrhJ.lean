import Derived.Test.YtgchnkgolclmgaaGreatDoorJG
import Derived.Test.YtgchnkgolclmgaaGreatDoorJN
open List renaming mem_cons_self → aH
open Array renaming getElem?_eq_some_iff → aY
open Go.RowKit.Below renaming refl → aL
open Go.Proofs.Tryz
open List renaming getElem_toArray → aW, getElem_cons_zero → aV, getElem_cons_succ → aU, setIfInBounds_toArray → aT, set_cons_zero → aS, set_cons_succ → aR
set_option maxRecDepth 1000000
set_option maxHeartbeats 8000000
namespace Go.Proofs.YtgchnkgolclmgaaGreatDoor.W.Tr
open Go.ChangeShapes Go.WideShapes Go.RowKit Go.Shelf
set_option linter.unusedVariables false
set_option linter.unusedSimpArgs false
theorem Oo(n:Nat)(k:Int):xZ 117 (.int .i64 k) (.jm k) (n+1):=by
 intro W cb Ys v s r hC hP
 have hx:=Sx.start hC
 clear hC
 simp only[P] at hP
 rcases Hg hP with⟨f,h1,rfl⟩|⟨y1,h1,hP⟩
 rotate_left
 rcases bU hP with⟨f,h2,rfl⟩|⟨y2,h2,hP⟩
 rotate_left
 by_cases g2:aG y2.t=bV
 rw[if_pos g2] at hP
 replace hP:=rF h2 g2 hP
 obtain rfl:=aQ hP
 rotate_left
 rw[if_neg g2] at hP
 rcases iU hP with⟨f,h3,rfl⟩|⟨y3,h3,g3,rfl⟩|⟨y3,h3,g3,hP⟩
 rotate_left
 rotate_left
 have G3:=hid g3
 clear g3
 have HP:=hid hP
 clear hP
 have tf:=Du
 focus
  go_enter func117,ntmps117
  go_upto_region 4 with(first|((with_reducible (apply Calls.mono;first|exact Sx.take hx h1|exact Sx.iO hx h2 _ g2));clear hx;rintro e w2 ⟨rfl,hx⟩)|(go_at_call 28;(with_reducible refine(Sx.NM  hx k y1 ).mono ?_);clear hx;rintro e w2 ⟨b0,rfl,hx⟩)|(go_at_call 51;(with_reducible refine(Sx.name hx h3 G3.out).mono ?_);rintro e w2 ⟨he,hx2⟩;(unfold tv at he);subst he;(replace hx:=hx2);clear hx2;(obtain⟨k0,k1,k3,zf⟩:=hx.cells (b:=b0) (nd:=kT k y1) (ks:=.nil) (by simp));(have z0:=zf 0);(have z3:=zf 3);clear zf))
 replace hx:=hx.set (b:=b0) (nd:=kT k y1) (nd':=⟨k,y1.a,y3.t.text,0,0⟩) (ks:=.nil) (by simp) 3 (.string y3.t.text) (λu=>rfl)
 clear k0 k1 k3 z0 z3
 replace hP:=HP.out
 rcases bK hP with⟨f,h4,rfl⟩|⟨y4,h4,g4,rfl⟩|⟨y4,h4,g4,hP⟩
 rotate_left
 rotate_left
 obtain rfl:=aQ hP
 rotate_left
 all_goals (try clear hP)
 all_goals first|(guard_target =~ Calls _ _ _ _ _;go_enter func117,ntmps117)|skip
 all_goals go_wp2_with (first|((with_reducible (apply Calls.mono;first|exact Sx.Uf hx h1|exact Sx.kV hx h2 _ _|exact Sx.bP hx h3|exact Sx.dO hx h3 g3|exact Sx.aN hx h4 _|exact Sx.fG hx h4 _ g4));rintro e w9 ⟨he,ht,hu⟩;(unfold kC fv at he);subst he)|((with_reducible (apply Calls.mono;first|exact Sx.take hx h1|exact Sx.gB hx h2 _ g2|exact Sx.want hx h2 _ g2|exact Sx.iO hx h2 _ g2|exact Sx.want hx h4 _ g4));clear hx;rintro e w2 ⟨rfl,hx⟩)|(go_at_call 28;(with_reducible refine(Sx.NM  hx k y1 ).mono ?_);clear hx;rintro e w2 ⟨b0,rfl,hx⟩))
 all_goals first|exact⟨rfl,rfl,ht,hu⟩|(go_ret;exact hx.res (aH ..))
theorem V9(n:Nat)(ce:fZ 148 .ex n)(xJ:fZ 55 .bl n)(ci:fZ 114 .iF n):fZ 114 .iF (n+1):=by
 intro W cb Ys v s r hC hP
 have hx:=Sx.start hC
 clear hC
 simp only[P] at hP
 rcases bK hP with⟨f,h1,rfl⟩|⟨y1,h1,g1,rfl⟩|⟨y1,h1,g1,hP⟩
 rotate_left
 rotate_left
 rcases aX hP with⟨f,q2,rfl⟩|⟨f2,s2,q2,hP⟩
 rotate_left
 rcases aX hP with⟨f,q3,rfl⟩|⟨f3,s3,q3,hP⟩
 rotate_left
 rcases bU hP with⟨f,h4,rfl⟩|⟨y4,h4,hP⟩
 rotate_left
 by_cases g4:aG y4.t=pE
 rw[if_pos g4] at hP
 replace hP:=dK h4 hP
 rcases bU hP with⟨f,h5,rfl⟩|⟨y5,h5,hP⟩
 rotate_left
 by_cases g5:aG y5.t=jV
 rw[if_pos g5] at hP
 have HP:=hid hP
 clear hP
 focus
  go_enter func114,ntmps114
  go_upto_region 6 with(first|((with_reducible (apply Calls.mono;first|exact Sx.want hx h1 _ g1|exact Sx.gB hx h4 _ g4|exact Sx.take hx h4|exact Sx.gB hx h5 _ g5));clear hx;rintro e w2 ⟨rfl,hx⟩)|(go_at_call 148;(with_reducible refine(Sx.part hx ce q2).mono ?_);clear hx;rintro e w2 ⟨b2,rfl,hx⟩)|(go_at_call 55;(with_reducible refine(Sx.part hx xJ q3).mono ?_);clear hx;rintro e w2 ⟨b3,rfl,hx⟩)|(go_at_call 28;(with_reducible refine(Sx.at2 (b1:=b2) (f1:=f2) (b2:=b3) (f2:=f3) hx 9 y1 (by simp) (by simp)).mono ?_);clear hx;rintro e w2 ⟨b0,rfl,hx⟩))
  have HE:=hid (And.intro (hx.len1 (b:=b2) (fo:=f2) (by simp)) (hx.len1 (b:=b3) (fo:=f3) (by simp)))
  obtain⟨u,bk,hbr⟩:=Br.of (hx.ts (b0,Fo.one (kT 9 y1) (f2.app f3)) (by simp))
  have hlen:=bg.len hbr.kids
  obtain⟨uo,uc,rfl⟩:=hbr.slice
  replace hx:=hx.drew
  have HB:=hid (hbr.upd hx.cx.lt (It.bL.of_below (aL _ _).drew))
  have HL:=hid hlen
  clear hbr hlen
  refine It.bM (z:=11) (S:=λw'=>w'.cell? ⟨b0,6,none⟩=some (Value.slice uo bk.length uc)) (by kernel_rfl) ?_
  have hS:_:=(aA HB.out.top 6:_=some (Value.slice uo bk.length uc))
  iterate 6 ((refine It.nL 0 ?_ rfl (by kernel_rfl) (λ_ _ _ h=>h) (Or.inl ⟨by rfl,?_⟩) hS ?_);rotate_left;(focus (intro w' hSw;go_simp;(try with_reducible rfl)));(try simp only[Act.put,aW,aV,aU,aT,aS,aR]))
  refine It.aD (i:=6) (by kernel_rfl) rfl rfl (λK hK=>?_)
  refine It.aB (λc h=>by cases h) ?_
  have HK:=hid hK
  clear hK
  go_simp
  replace hP:=HP.out
  rcases aX hP with⟨f,q9,rfl⟩|⟨f9,s9,q9,hP⟩
  ·refine(hx.dN ci q9).mono ?_
   rintro e w9 ⟨he,ht,hu⟩
   unfold kC fv at he
   subst he
   exact⟨rfl,rfl,ht,hu⟩
  clear HP
  obtain rfl:=aQ hP
  refine(hx.jZ ci q9).mono ?_
  rintro e w2 ⟨x,rfl,hx2,hU,hfx⟩
  have hb2:=HB.out.upd hx.cx.lt hU
  refine HK.out _ _ (.inr (aA hb2.top 6)) ?_
  clear HK hS
  (try simp only[Act.put,aW,aV,aU,aT,aS,aR])
  obtain⟨u2,w4,hrun,ho2,hg2,hk2⟩:=fF w2 68 (.slice uo bk.length uc) bk.length _ hb2.row hx2.cx.upd.size x (by have:=HL.out;have e1:=HE.out.1;have e2:=HE.out.2;rw[Fo.gq] at this;omega)
  obtain⟨o2,c2,rfl⟩:=aI ho2
  refine It.aD (i:=7) (by kernel_rfl) rfl rfl (λK hK=>?_)
  refine It.aB (λc h=>by cases h) ?_
  have HK:=hid hK
  clear hK
  go_simp
  have hb3:=aF hb2.top ((aL _ w2).alloc (Nat.le_refl _) (.cells #[ptr x] 54))
  refine HK.out _ _ (.inr (aA hb3 6)) ?_
  clear HK
  (try simp only[Act.put,aW,aV,aU,aT,aS,aR])
  refine It.aD (i:=8) (by kernel_rfl) rfl rfl (λK hK=>?_)
  refine It.aB (λc h=>by cases h) ?_
  refine Lib.wp_append_run _ (.tmp 26) (.tmp 29) 68 68 rfl _ _ rfl rfl _ _ hrun ?_
  have t4:=(hg2.block _ (aY.1 hb3).1 (λe=>HB.out.ne _ e.symm rfl)).trans hb3
  have hS:_:=(aA t4 6:_=some (Value.slice uo bk.length uc))
  refine hK _ _ (.inr hS) ?_
  clear hK K hrun
  (try simp only[Act.put,aW,aV,aU,aT,aS,aR])
  refine It.aD (i:=9) (by kernel_rfl) rfl rfl (λK hK=>?_)
  refine It.aB (λc h=>by cases h) ?_
  have HK:=hid hK
  clear hK
  go_simp
  refine HK.out _ _ (.inr hS) ?_
  clear HK
  (try simp only[Act.put,aW,aV,aU,aT,aS,aR])
  refine It.aD (i:=10) (by kernel_rfl) rfl rfl (λK hK=>?_)
  refine It.aB (λc h=>by cases h) ?_
  have HK:=hid hK
  clear hK
  go_simp
  refine HK.out _ _ (.inr hS) ?_
  clear HK
  (try simp only[Act.put,aW,aV,aU,aT,aS,aR])
  refine It.aD (i:=11) (by kernel_rfl) rfl rfl (λK hK=>?_)
  refine It.aB (λc h=>by cases h) ?_
  have HK:=hid hK
  clear hK
  have zz:=aC t4 6
  go_simp
  have hx3:=hx2.append hU hx.cx.upd.size HB.out hfx ho2 hg2 hk2
  refine HK.out _ _ (.inl rfl) ?_
  clear HK
  (try simp only[Act.put,aW,aV,aU,aT,aS,aR])
  replace hx:=hx3
  clear hx3 hx2 hU hfx HB HL hb2 hb3 t4 zz hS ho2 hg2 hk2
  refine It.bQ (by kernel_rfl) ?_ _
  go_wp2
  go_ret
  exact hx.res (aH ..)
 rw[if_neg g5] at hP
 have HP:=hid hP
 clear hP
 focus
  go_enter func114,ntmps114
  go_upto_region 7 with(first|((with_reducible (apply Calls.mono;first|exact Sx.want hx h1 _ g1|exact Sx.gB hx h4 _ g4|exact Sx.take hx h4|exact Sx.iO hx h5 _ g5));clear hx;rintro e w2 ⟨rfl,hx⟩)|(go_at_call 148;(with_reducible refine(Sx.part hx ce q2).mono ?_);clear hx;rintro e w2 ⟨b2,rfl,hx⟩)|(go_at_call 55;(with_reducible refine(Sx.part hx xJ q3).mono ?_);clear hx;rintro e w2 ⟨b3,rfl,hx⟩)|(go_at_call 28;(with_reducible refine(Sx.at2 (b1:=b2) (f1:=f2) (b2:=b3) (f2:=f3) hx 9 y1 (by simp) (by simp)).mono ?_);clear hx;rintro e w2 ⟨b0,rfl,hx⟩))
  have HE:=hid (And.intro (hx.len1 (b:=b2) (fo:=f2) (by simp)) (hx.len1 (b:=b3) (fo:=f3) (by simp)))
  obtain⟨u,bk,hbr⟩:=Br.of (hx.ts (b0,Fo.one (kT 9 y1) (f2.app f3)) (by simp))
  have hlen:=bg.len hbr.kids
  obtain⟨uo,uc,rfl⟩:=hbr.slice
  replace hx:=hx.drew
  have HB:=hid (hbr.upd hx.cx.lt (It.bL.of_below (aL _ _).drew))
  have HL:=hid hlen
  clear hbr hlen
  refine It.bM (z:=11) (S:=λw'=>w'.cell? ⟨b0,6,none⟩=some (Value.slice uo bk.length uc)) (by kernel_rfl) ?_
  have hS:_:=(aA HB.out.top 6:_=some (Value.slice uo bk.length uc))
  iterate 6 ((refine It.nL 0 ?_ rfl (by kernel_rfl) (λ_ _ _ h=>h) (Or.inl ⟨by rfl,?_⟩) hS ?_);rotate_left;(focus (intro w' hSw;go_simp;(try with_reducible rfl)));(try simp only[Act.put,aW,aV,aU,aT,aS,aR]))
  refine It.aD (i:=6) (by kernel_rfl) rfl rfl (λK hK=>?_)
  refine It.aB (λc h=>by cases h) ?_
  have HK:=hid hK
  clear hK
  go_simp
  replace hP:=HP.out
  rcases aX hP with⟨f,q9,rfl⟩|⟨f9,s9,q9,hP⟩
  ·refine(hx.dN xJ q9).mono ?_
   rintro e w9 ⟨he,ht,hu⟩
   unfold kC fv at he
   subst he
   exact⟨rfl,rfl,ht,hu⟩
  clear HP
  obtain rfl:=aQ hP
  refine(hx.jZ xJ q9).mono ?_
  rintro e w2 ⟨x,rfl,hx2,hU,hfx⟩
  have hb2:=HB.out.upd hx.cx.lt hU
  refine HK.out _ _ (.inr (aA hb2.top 6)) ?_
  clear HK hS
  (try simp only[Act.put,aW,aV,aU,aT,aS,aR])
  obtain⟨u2,w4,hrun,ho2,hg2,hk2⟩:=fF w2 68 (.slice uo bk.length uc) bk.length _ hb2.row hx2.cx.upd.size x (by have:=HL.out;have e1:=HE.out.1;have e2:=HE.out.2;rw[Fo.gq] at this;omega)
  obtain⟨o2,c2,rfl⟩:=aI ho2
  refine It.aD (i:=7) (by kernel_rfl) rfl rfl (λK hK=>?_)
  refine It.aB (λc h=>by cases h) ?_
  have HK:=hid hK
  clear hK
  go_simp
  have hb3:=aF hb2.top ((aL _ w2).alloc (Nat.le_refl _) (.cells #[ptr x] 54))
  refine HK.out _ _ (.inr (aA hb3 6)) ?_
  clear HK
  (try simp only[Act.put,aW,aV,aU,aT,aS,aR])
  refine It.aD (i:=8) (by kernel_rfl) rfl rfl (λK hK=>?_)
  refine It.aB (λc h=>by cases h) ?_
  refine Lib.wp_append_run _ (.tmp 37) (.tmp 40) 68 68 rfl _ _ rfl rfl _ _ hrun ?_
  have t4:=(hg2.block _ (aY.1 hb3).1 (λe=>HB.out.ne _ e.symm rfl)).trans hb3
  have hS:_:=(aA t4 6:_=some (Value.slice uo bk.length uc))
  refine hK _ _ (.inr hS) ?_
  clear hK K hrun
  (try simp only[Act.put,aW,aV,aU,aT,aS,aR])
  refine It.aD (i:=9) (by kernel_rfl) rfl rfl (λK hK=>?_)
  refine It.aB (λc h=>by cases h) ?_
  have HK:=hid hK
  clear hK
  go_simp
  refine HK.out _ _ (.inr hS) ?_
  clear HK
  (try simp only[Act.put,aW,aV,aU,aT,aS,aR])
  refine It.aD (i:=10) (by kernel_rfl) rfl rfl (λK hK=>?_)
  refine It.aB (λc h=>by cases h) ?_
  have HK:=hid hK
  clear hK
  go_simp
  refine HK.out _ _ (.inr hS) ?_
  clear HK
  (try simp only[Act.put,aW,aV,aU,aT,aS,aR])
  refine It.aD (i:=11) (by kernel_rfl) rfl rfl (λK hK=>?_)
  refine It.aB (λc h=>by cases h) ?_
  have HK:=hid hK
  clear hK
  have zz:=aC t4 6
  go_simp
  have hx3:=hx2.append hU hx.cx.upd.size HB.out hfx ho2 hg2 hk2
  refine HK.out _ _ (.inl rfl) ?_
  clear HK
  (try simp only[Act.put,aW,aV,aU,aT,aS,aR])
  replace hx:=hx3
  clear hx3 hx2 hU hfx HB HL hb2 hb3 t4 zz hS ho2 hg2 hk2
  refine It.bQ (by kernel_rfl) ?_ _
  go_wp2
  go_ret
  exact hx.res (aH ..)
 rw[if_neg g4] at hP
 obtain rfl:=aQ hP
 rotate_left
 all_goals (try clear hP)
 all_goals first|(guard_target =~ Calls _ _ _ _ _;go_enter func114,ntmps114)|skip
 all_goals go_wp2_with (first|((with_reducible (apply Calls.mono;first|exact Sx.aN hx h1 _|exact Sx.fG hx h1 _ g1|exact Sx.dN hx ce q2|exact Sx.dN hx xJ q3|exact Sx.kV hx h4 _ _|exact Sx.kV hx h5 _ _));rintro e w9 ⟨he,ht,hu⟩;(unfold kC fv at he);subst he)|((with_reducible (apply Calls.mono;first|exact Sx.want hx h1 _ g1|exact Sx.gB hx h4 _ g4|exact Sx.take hx h4|exact Sx.iO hx h4 _ g4));clear hx;rintro e w2 ⟨rfl,hx⟩)|(go_at_call 148;(with_reducible refine(Sx.part hx ce q2).mono ?_);clear hx;rintro e w2 ⟨b2,rfl,hx⟩)|(go_at_call 55;(with_reducible refine(Sx.part hx xJ q3).mono ?_);clear hx;rintro e w2 ⟨b3,rfl,hx⟩)|(go_at_call 28;(with_reducible refine(Sx.at2 (b1:=b2) (f1:=f2) (b2:=b3) (f2:=f3) hx 9 y1 (by simp) (by simp)).mono ?_);clear hx;rintro e w2 ⟨b0,rfl,hx⟩))
 all_goals first|exact⟨rfl,rfl,ht,hu⟩|(go_ret;exact hx.res (aH ..))
theorem TH(n:Nat)(ce:fZ 148 .ex n)(xJ:fZ 55 .bl n):fZ 116 .fr (n+1):=by
 intro W cb Ys v s r hC hP
 have hx:=Sx.start hC
 clear hC
 simp only[P] at hP
 rcases bK hP with⟨f,h1,rfl⟩|⟨y1,h1,g1,rfl⟩|⟨y1,h1,g1,hP⟩
 rotate_left
 rotate_left
 rcases iU hP with⟨f,h2,rfl⟩|⟨y2,h2,g2,rfl⟩|⟨y2,h2,g2,hP⟩
 rotate_left
 rotate_left
 have G2:=hid g2
 clear g2
 have HP:=hid hP
 clear hP
 have tf:=Du
 focus
  go_enter func116,ntmps116
  go_upto_region 3 with(first|(go_at_call 50;(with_reducible refine(Sx.want hx h1 _ g1).mono ?_);clear hx;rintro e w2 ⟨rfl,hx⟩)|(go_at_call 28;(with_reducible refine(Sx.NM  hx 11 y1 ).mono ?_);clear hx;rintro e w2 ⟨b0,rfl,hx⟩)|(go_at_call 51;(with_reducible refine(Sx.name hx h2 G2.out).mono ?_);rintro e w2 ⟨he,hx2⟩;(unfold tv at he);subst he;(replace hx:=hx2);clear hx2;(obtain⟨k0,k1,k3,zf⟩:=hx.cells (b:=b0) (nd:=kT 11 y1) (ks:=.nil) (by simp));(have z0:=zf 0);(have z3:=zf 3);clear zf))
 have hx0:=hx.set (b:=b0) (nd:=kT 11 y1) (nd':=⟨11,y1.a,y2.t.text,0,0⟩) (ks:=.nil) (by simp) 3 (.string y2.t.text) (λu=>rfl)
 clear hx k0 k1 k3 z0 z3
 replace hP:=HP.out
 generalize w2.setCell ⟨b0,3,none⟩ (.string y2.t.text)=Wb at *
 have H0:=hid hx0
 have hx:=hx0.gP
 clear hx0
 rcases bK hP with⟨f,h3,rfl⟩|⟨y3,h3,g3,rfl⟩|⟨y3,h3,g3,hP⟩
 rotate_left
 rotate_left
 rcases aX hP with⟨f,q4,rfl⟩|⟨f4,s4,q4,hP⟩
 rotate_left
 rcases bK hP with⟨f,h5,rfl⟩|⟨y5,h5,g5,rfl⟩|⟨y5,h5,g5,hP⟩
 rotate_left
 rotate_left
 rcases aX hP with⟨f,q6,rfl⟩|⟨f6,s6,q6,hP⟩
 rotate_left
 rcases aX hP with⟨f,q7,rfl⟩|⟨f7,s7,q7,hP⟩
 rotate_left
 obtain rfl:=aQ hP
 focus
  go_upto_region 7 with(first|((with_reducible (apply Calls.mono;first|exact Sx.want hx h3 _ g3|exact Sx.want hx h5 _ g5));clear hx;rintro e w2 ⟨rfl,hx⟩)|(go_at_call 148;(with_reducible refine(Sx.part hx ce q4).mono ?_);clear hx;rintro e w2 ⟨b4,rfl,hx⟩)|(go_at_call 148;(with_reducible refine(Sx.part hx ce q6).mono ?_);clear hx;rintro e w2 ⟨b6,rfl,hx⟩)|(go_at_call 55;(with_reducible refine(Sx.part hx xJ q7).mono ?_);clear hx;rintro e w2 ⟨b7,rfl,hx⟩;(obtain⟨u0,tb⟩:=H0.out.top (b:=b0) (nd:=⟨11,y1.a,y2.t.text,0,0⟩) (ks:=.nil) (by simp));(have t6:=(hx.cx.upd.block b0 (aY.1 tb).1 (by have:=H0.out.cx.lt;have:=(H0.out.ts _ (aH ..));have:=(Br.of this).choose_spec.choose_spec.lo;omega)).trans tb);(have q6:w2.cell? ⟨b0,6,none⟩=some u0:=aA t6 6);(have z6:=aC t6 6);(have l6:=(aY.1 t6).1);(have m6:¬b0=w2.heap.size:=by omega);(have m7:¬w2.heap.size=b0:=by omega);(have T6:=hid t6);clear t6 tb))
  replace hx:=H0.out.V3 (b:=b0) (nd:=⟨11,y1.a,y2.t.text,0,0⟩) (by simp) hx (b1:=b4) (f1:=f4) (b2:=b6) (f2:=f6) (b3:=b7) (f3:=f7) (by simp) (by simp) (by simp)
  rw[World.setCell_alloc_past _ _ _ _ l6] at hx
  clear q6 z6 l6 m6 m7 T6
  go_wp2
  go_ret
  exact hx.res (aH ..)
 all_goals (try clear hP)
 all_goals first|(guard_target =~ Calls _ _ _ _ _;go_enter func116,ntmps116)|skip
 all_goals go_wp2_with (first|((with_reducible (apply Calls.mono;first|exact Sx.aN hx h1 _|exact Sx.fG hx h1 _ g1|exact Sx.bP hx h2|exact Sx.dO hx h2 g2|exact Sx.aN hx h3 _|exact Sx.fG hx h3 _ g3|exact Sx.dN hx ce q4|exact Sx.aN hx h5 _|exact Sx.fG hx h5 _ g5|exact Sx.dN hx ce q6|exact Sx.dN hx xJ q7));rintro e w9 ⟨he,ht,hu⟩;(unfold kC fv at he);subst he)|((with_reducible (apply Calls.mono;first|exact Sx.want hx h1 _ g1|exact Sx.want hx h3 _ g3|exact Sx.want hx h5 _ g5));clear hx;rintro e w2 ⟨rfl,hx⟩)|(go_at_call 28;(with_reducible refine(Sx.NM  hx 11 y1 ).mono ?_);clear hx;rintro e w2 ⟨b0,rfl,hx⟩)|(go_at_call 148;(with_reducible refine(Sx.part hx ce q4).mono ?_);clear hx;rintro e w2 ⟨b4,rfl,hx⟩)|(go_at_call 148;(with_reducible refine(Sx.part hx ce q6).mono ?_);clear hx;rintro e w2 ⟨b6,rfl,hx⟩))
 all_goals first|exact⟨rfl,rfl,ht,hu⟩|exact⟨rfl,rfl,ht,H0.out.cx.upd.trans' hu⟩|(go_ret;exact hx.res (aH ..))
end Go.Proofs.YtgchnkgolclmgaaGreatDoor.W.Tr

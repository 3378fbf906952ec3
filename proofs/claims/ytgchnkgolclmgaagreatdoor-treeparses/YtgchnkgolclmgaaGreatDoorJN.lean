import Derived.Test.YtgchnkgolclmgaaGreatDoorJG
import Derived.Test.YtgchnkgolclmgaaGreatDoorJM
import Derived.Test.YtgchnkgolclmgaaGreatDoorJV
open List renaming mem_cons_self → aH
open Array renaming getElem?_eq_some_iff → bO
open Nat renaming le_refl → aY
open Go.RowKit.Below renaming refl → aL
open Go.Lib renaming wp_append_run → ay
open Go.Proofs.Tryz
open List renaming getElem_toArray → aW, getElem_cons_zero → aV, getElem_cons_succ → aU, setIfInBounds_toArray → aT, set_cons_zero → aS, set_cons_succ → aR
set_option maxRecDepth 1000000
set_option maxHeartbeats 8000000
namespace Go.Proofs.YtgchnkgolclmgaaGreatDoor.W.Tr
open Go.ChangeShapes Go.WideShapes Go.RowKit Go.Shelf
set_option linter.unusedVariables false
set_option linter.unusedSimpArgs false
theorem Cc(n:Nat)  : fZ 54 .pm (n+1):=by
 intro W cb Ys v s r hC hP
 have hx:=Sx.start hC
 clear hC
 simp only[P] at hP
 rcases iU hP with⟨f,h1,rfl⟩|⟨y1,h1,g1,rfl⟩|⟨y1,h1,g1,hP⟩
 rotate_left
 rotate_left
 have G1:=hid g1
 clear g1
 obtain rfl:=aQ hP
 rotate_left
 all_goals (try clear hP)
 all_goals first|(guard_target =~ Calls _ _ _ _ _;go_enter func54,ntmps54)|skip
 all_goals go_wp2_with (first|((with_reducible (apply Calls.mono;first|exact Sx.bP hx h1|exact Sx.dO hx h1 g1));rintro e w9 ⟨he,ht,hu⟩;(unfold kC fv at he);subst he)|(go_at_call 51;(with_reducible refine(Sx.name hx h1 G1.out).mono ?_);clear hx;rintro e w2 ⟨rfl,hx⟩)|(go_at_call 52;(with_reducible refine(Sx.QG  hx 4 y1 ).mono ?_);clear hx;rintro e w2 ⟨b0,rfl,hx⟩))
 all_goals first|exact⟨rfl,rfl,ht,hu⟩|(go_ret;exact hx.res (aH ..))
theorem M7(n:Nat)  : fZ 31 .gl (n+1):=by
 intro W cb Ys v s r hC hP
 have hx:=Sx.start hC
 clear hC
 simp only[P] at hP
 rcases bK hP with⟨f,h1,rfl⟩|⟨y1,h1,g1,rfl⟩|⟨y1,h1,g1,hP⟩
 rotate_left
 rotate_left
 rcases iU hP with⟨f,h2,rfl⟩|⟨y2,h2,g2,rfl⟩|⟨y2,h2,g2,hP⟩
 rotate_left
 rotate_left
 have G2:=hid g2
 clear g2
 rcases bK hP with⟨f,h3,rfl⟩|⟨y3,h3,g3,rfl⟩|⟨y3,h3,g3,hP⟩
 rotate_left
 rotate_left
 obtain rfl:=aQ hP
 rotate_left
 all_goals (try clear hP)
 all_goals first|(guard_target =~ Calls _ _ _ _ _;go_enter func31,ntmps31)|skip
 all_goals go_wp2_with (first|((with_reducible (apply Calls.mono;first|exact Sx.aN hx h1 _|exact Sx.fG hx h1 _ g1|exact Sx.bP hx h2|exact Sx.dO hx h2 g2|exact Sx.aN hx h3 _|exact Sx.aN (hx.gu y2) h3 _|exact Sx.fG hx h3 _ g3|exact Sx.fG (hx.gu y2) h3 _ g3));rintro e w9 ⟨he,ht,hu⟩;(unfold kC fv at he);subst he)|(go_at_call 50;(with_reducible refine(Sx.want hx h1 _ g1).mono ?_);clear hx;rintro e w2 ⟨rfl,hx⟩)|(go_at_call 51;(with_reducible refine(Sx.name hx h2 G2.out).mono ?_);rintro e w2 ⟨he,hx2⟩;(unfold tv at he);subst he;(replace hx:=hx2);clear hx2)|((with_reducible (apply Calls.mono;first|exact Sx.want hx h3 _ g3|exact Sx.want (hx.gu y2) h3 _ g3));clear hx;rintro e w2 ⟨rfl,hx⟩;(try obtain⟨x0,x1,x2,x3,x4⟩:=hx.tok (aH ..)))|((with_reducible (apply Calls.mono;first|exact Sx.Rv hx 2 y2|exact Sx.Rv (hx.gu y2) 2 y2));clear hx;rintro e w2 ⟨b0,rfl,hx⟩))
 all_goals first|exact⟨rfl,rfl,ht,hu⟩|(go_ret;exact hx.res (aH ..))
theorem Sc(n:Nat)(ce:fZ 148 .ex n):fZ 113 .lt (n+1):=by
 intro W cb Ys v s r hC hP
 have hx:=Sx.start hC
 clear hC
 simp only[P] at hP
 rcases bK hP with⟨f,h1,rfl⟩|⟨y1,h1,g1,rfl⟩|⟨y1,h1,g1,hP⟩
 rotate_left
 rotate_left
 rcases iU hP with⟨f,h2,rfl⟩|⟨y2,h2,g2,rfl⟩|⟨y2,h2,g2,hP⟩
 rotate_left
 rotate_left
 have G2:=hid g2
 clear g2
 rcases bK hP with⟨f,h3,rfl⟩|⟨y3,h3,g3,rfl⟩|⟨y3,h3,g3,hP⟩
 rotate_left
 rotate_left
 rcases aX hP with⟨f,q4,rfl⟩|⟨f4,s4,q4,hP⟩
 rotate_left
 rcases bK hP with⟨f,h5,rfl⟩|⟨y5,h5,g5,rfl⟩|⟨y5,h5,g5,hP⟩
 rotate_left
 rotate_left
 obtain rfl:=aQ hP
 rotate_left
 all_goals (try clear hP)
 all_goals first|(guard_target =~ Calls _ _ _ _ _;go_enter func113,ntmps113)|skip
 all_goals go_wp2_with (first|((with_reducible (apply Calls.mono;first|exact Sx.aN hx h1 _|exact Sx.fG hx h1 _ g1|exact Sx.bP hx h2|exact Sx.dO hx h2 g2|exact Sx.aN hx h3 _|exact Sx.aN (hx.gu y2) h3 _|exact Sx.fG hx h3 _ g3|exact Sx.fG (hx.gu y2) h3 _ g3|exact Sx.dN hx ce q4|exact Sx.dN (hx.gu y2) ce q4|exact Sx.aN hx h5 _|exact Sx.aN (hx.gu y2) h5 _|exact Sx.fG hx h5 _ g5|exact Sx.fG (hx.gu y2) h5 _ g5));rintro e w9 ⟨he,ht,hu⟩;(unfold kC fv at he);subst he)|(go_at_call 50;(with_reducible refine(Sx.want hx h1 _ g1).mono ?_);clear hx;rintro e w2 ⟨rfl,hx⟩)|(go_at_call 51;(with_reducible refine(Sx.name hx h2 G2.out).mono ?_);rintro e w2 ⟨he,hx2⟩;(unfold tv at he);subst he;(replace hx:=hx2);clear hx2)|((with_reducible (apply Calls.mono;first|exact Sx.want hx h3 _ g3|exact Sx.want (hx.gu y2) h3 _ g3|exact Sx.want hx h5 _ g5|exact Sx.want (hx.gu y2) h5 _ g5));clear hx;rintro e w2 ⟨rfl,hx⟩;(try obtain⟨x0,x1,x2,x3,x4⟩:=hx.tok (aH ..)))|((with_reducible (apply Calls.mono;first|exact Sx.part hx ce q4|exact Sx.part (hx.gu y2) ce q4));clear hx;rintro e w2 ⟨b4,rfl,hx⟩;(try obtain⟨x0,x1,x2,x3,x4⟩:=hx.tok (aH ..)))|((with_reducible (apply Calls.mono;first|exact Sx.VK (b1:=b4) (f1:=f4) hx 6 y2 (by simp)|exact Sx.VK (b1:=b4) (f1:=f4) (hx.gu y2) 6 y2 (by simp)));clear hx;rintro e w2 ⟨b0,rfl,hx⟩))
 all_goals first|exact⟨rfl,rfl,ht,hu⟩|(go_ret;exact hx.res (aH ..))
theorem Jv(n:Nat)(ce:fZ 148 .ex n)(xJ:fZ 55 .bl n):fZ 115 .wh (n+1):=by
 intro W cb Ys v s r hC hP
 have hx:=Sx.start hC
 clear hC
 simp only[P] at hP
 rcases bK hP with⟨f,h1,rfl⟩|⟨y1,h1,g1,rfl⟩|⟨y1,h1,g1,hP⟩
 rotate_left
 rotate_left
 rcases aX hP with⟨f,q2,rfl⟩|⟨f2,s2,q2,hP⟩
 rotate_left
 rcases aX hP with⟨f,q3,rfl⟩|⟨f3,s3,q3,hP⟩
 rotate_left
 obtain rfl:=aQ hP
 rotate_left
 all_goals (try clear hP)
 all_goals first|(guard_target =~ Calls _ _ _ _ _;go_enter func115,ntmps115)|skip
 all_goals go_wp2_with (first|((with_reducible (apply Calls.mono;first|exact Sx.aN hx h1 _|exact Sx.fG hx h1 _ g1|exact Sx.dN hx ce q2|exact Sx.dN hx xJ q3));rintro e w9 ⟨he,ht,hu⟩;(unfold kC fv at he);subst he)|(go_at_call 50;(with_reducible refine(Sx.want hx h1 _ g1).mono ?_);clear hx;rintro e w2 ⟨rfl,hx⟩)|(go_at_call 148;(with_reducible refine(Sx.part hx ce q2).mono ?_);clear hx;rintro e w2 ⟨b2,rfl,hx⟩)|(go_at_call 55;(with_reducible refine(Sx.part hx xJ q3).mono ?_);clear hx;rintro e w2 ⟨b3,rfl,hx⟩)|(go_at_call 28;(with_reducible refine(Sx.at2 (b1:=b2) (f1:=f2) (b2:=b3) (f2:=f3) hx 10 y1 (by simp) (by simp)).mono ?_);clear hx;rintro e w2 ⟨b0,rfl,hx⟩))
 all_goals first|exact⟨rfl,rfl,ht,hu⟩|(go_ret;exact hx.res (aH ..))
theorem Ro(n:Nat)(ce:fZ 148 .ex n):fZ 119 .ou (n+1):=by
 intro W cb Ys v s r hC hP
 have hx:=Sx.start hC
 clear hC
 simp only[P] at hP
 rcases bK hP with⟨f,h1,rfl⟩|⟨y1,h1,g1,rfl⟩|⟨y1,h1,g1,hP⟩
 rotate_left
 rotate_left
 rcases aX hP with⟨f,q2,rfl⟩|⟨f2,s2,q2,hP⟩
 rotate_left
 rcases bK hP with⟨f,h3,rfl⟩|⟨y3,h3,g3,rfl⟩|⟨y3,h3,g3,hP⟩
 rotate_left
 rotate_left
 obtain rfl:=aQ hP
 rotate_left
 all_goals (try clear hP)
 all_goals first|(guard_target =~ Calls _ _ _ _ _;go_enter func119,ntmps119)|skip
 all_goals go_wp2_with (first|((with_reducible (apply Calls.mono;first|exact Sx.aN hx h1 _|exact Sx.fG hx h1 _ g1|exact Sx.dN hx ce q2|exact Sx.aN hx h3 _|exact Sx.fG hx h3 _ g3));rintro e w9 ⟨he,ht,hu⟩;(unfold kC fv at he);subst he)|((with_reducible (apply Calls.mono;first|exact Sx.want hx h1 _ g1|exact Sx.want hx h3 _ g3));clear hx;rintro e w2 ⟨rfl,hx⟩)|(go_at_call 148;(with_reducible refine(Sx.part hx ce q2).mono ?_);clear hx;rintro e w2 ⟨b2,rfl,hx⟩)|(go_at_call 28;(with_reducible refine(Sx.at1 (b1:=b2) (f1:=f2) hx 16 y1 (by simp)).mono ?_);clear hx;rintro e w2 ⟨b0,rfl,hx⟩))
 all_goals first|exact⟨rfl,rfl,ht,hu⟩|(go_ret;exact hx.res (aH ..))
theorem Hz(n:Nat)(ce:fZ 148 .ex n):fZ 118 .rt (n+1):=by
 intro W cb Ys v s r hC hP
 have hx:=Sx.start hC
 clear hC
 simp only[P] at hP
 rcases bK hP with⟨f,h1,rfl⟩|⟨y1,h1,g1,rfl⟩|⟨y1,h1,g1,hP⟩
 rotate_left
 rotate_left
 rcases bU hP with⟨f,h2,rfl⟩|⟨y2,h2,hP⟩
 rotate_left
 by_cases g2:aG y2.t=bV
 rw[if_pos g2] at hP
 rcases bK hP with⟨f,h3,rfl⟩|⟨y3,h3,g3,rfl⟩|⟨y3,h3,g3,hP⟩
 rotate_left
 rotate_left
 obtain rfl:=aQ hP
 rotate_left
 rw[if_neg g2] at hP
 have HP:=hid hP
 clear hP
 focus
  go_enter func118,ntmps118
  go_upto_region 3 with(first|((with_reducible (apply Calls.mono;first|exact Sx.want hx h1 _ g1|exact Sx.iO hx h2 _ g2));clear hx;rintro e w2 ⟨rfl,hx⟩)|(go_at_call 28;(with_reducible refine(Sx.NM  hx 15 y1 ).mono ?_);clear hx;rintro e w2 ⟨b0,rfl,hx⟩))
  obtain⟨u,bk,hbr⟩:=Br.of (hx.ts (b0,Fo.one (kT 15 y1) .nil) (by simp))
  have hlen:=bg.len hbr.kids
  obtain⟨uo,uc,rfl⟩:=hbr.slice
  replace hx:=hx.drew
  have HB:=hid (hbr.upd hx.cx.lt (It.bL.of_below (aL _ _).drew))
  have HL:=hid hlen
  clear hbr hlen
  refine It.bM (z:=11) (S:=λw'=>w'.cell? ⟨b0,6,none⟩=some (Value.slice uo bk.length uc)) (by kernel_rfl) ?_
  have hS:_:=(aA HB.out.top 6:_=some (Value.slice uo bk.length uc))
  iterate 6 ((refine It.nL 0 ?_ rfl (by kernel_rfl) (λ_ _ _ h=>h) (Or.inl ⟨by rfl,?_⟩) hS ?_);rotate_left;(focus (intro w' hSw;go_simp;(try with_reducible rfl)));(try simp only[Act.put,aW,aV,aU,aT,aS,aR]))
  refine It.aD (i:=6) (by kernel_rfl) rfl rfl (λK hK=>?_)
  refine It.aB (λc h=>by cases h) ?_
  have HK:=hid hK
  clear hK
  go_simp
  replace hP:=HP.out
  rcases aX hP with⟨f,q9,rfl⟩|⟨f9,s9,q9,hP⟩
  ·refine(hx.dN ce q9).mono ?_
   rintro e w9 ⟨he,ht,hu⟩
   unfold kC fv at he
   subst he
   exact⟨rfl,rfl,ht,hu⟩
  clear HP
  have qU:=hid hP
  clear hP
  refine(hx.jZ ce q9).mono ?_
  rintro e w2 ⟨x,rfl,hx2,hU,hfx⟩
  have hb2:=HB.out.upd hx.cx.lt hU
  refine HK.out _ _ (.inr (aA hb2.top 6)) ?_
  clear HK hS
  (try simp only[Act.put,aW,aV,aU,aT,aS,aR])
  obtain⟨u2,w4,hrun,ho2,hg2,hk2⟩:=fF w2 68 (.slice uo bk.length uc) bk.length _ hb2.row hx2.cx.upd.size x (by have:=HL.out;simp only[Fo.len] at this;omega)
  obtain⟨o2,c2,rfl⟩:=aI ho2
  refine It.aD (i:=7) (by kernel_rfl) rfl rfl (λK hK=>?_)
  refine It.aB (λc h=>by cases h) ?_
  have HK:=hid hK
  clear hK
  go_simp
  have hb3:=aF hb2.top ((aL _ w2).alloc (aY _) (.cells #[ptr x] 54))
  refine HK.out _ _ (.inr (aA hb3 6)) ?_
  clear HK
  (try simp only[Act.put,aW,aV,aU,aT,aS,aR])
  refine It.aD (i:=8) (by kernel_rfl) rfl rfl (λK hK=>?_)
  refine It.aB (λc h=>by cases h) ?_
  refine ay _ (.tmp 15) (.tmp 18) 68 68 rfl _ _ rfl rfl _ _ hrun ?_
  have t4:=(hg2.block _ (bO.1 hb3).1 (λe=>HB.out.ne _ e.symm rfl)).trans hb3
  have hS:_:=(aA t4 6:_=some (Value.slice uo bk.length uc))
  refine hK _ _ (.inr hS) ?_
  clear hK K hrun
  (try simp only[Act.put,aW,aV,aU,aT,aS,aR])
  refine It.aD (i:=9) (by kernel_rfl) rfl rfl (λK hK=>?_)
  refine It.aB (λc h=>by cases h) ?_
  have HK:=hid hK
  clear hK
  go_simp
  refine HK.out _ _ (.inr hS) ?_
  clear HK
  (try simp only[Act.put,aW,aV,aU,aT,aS,aR])
  refine It.aD (i:=10) (by kernel_rfl) rfl rfl (λK hK=>?_)
  refine It.aB (λc h=>by cases h) ?_
  have HK:=hid hK
  clear hK
  go_simp
  refine HK.out _ _ (.inr hS) ?_
  clear HK
  (try simp only[Act.put,aW,aV,aU,aT,aS,aR])
  refine It.aD (i:=11) (by kernel_rfl) rfl rfl (λK hK=>?_)
  refine It.aB (λc h=>by cases h) ?_
  have HK:=hid hK
  clear hK
  have zz:=aC t4 6
  go_simp
  have hx3:=hx2.append hU hx.cx.upd.size HB.out hfx ho2 hg2 hk2
  refine HK.out _ _ (.inl rfl) ?_
  clear HK
  (try simp only[Act.put,aW,aV,aU,aT,aS,aR])
  replace hx:=hx3
  clear hx3 hx2 hU hfx HB HL hb2 hb3 t4 zz hS ho2 hg2 hk2
  refine It.bQ (by kernel_rfl) ?_ _
 replace hP:=qU.out
 rcases bK hP with⟨f,h4,rfl⟩|⟨y4,h4,g4,rfl⟩|⟨y4,h4,g4,hP⟩
 rotate_left
 rotate_left
 obtain rfl:=aQ hP
 rotate_left
 all_goals (try clear hP)
 all_goals first|(guard_target =~ Calls _ _ _ _ _;go_enter func118,ntmps118)|skip
 all_goals go_wp2_with (first|((with_reducible (apply Calls.mono;first|exact Sx.aN hx h1 _|exact Sx.fG hx h1 _ g1|exact Sx.kV hx h2 _ _|exact Sx.aN hx h3 _|exact Sx.fG hx h3 _ g3|exact Sx.aN hx h4 _|exact Sx.fG hx h4 _ g4));rintro e w9 ⟨he,ht,hu⟩;(unfold kC fv at he);subst he)|((with_reducible (apply Calls.mono;first|exact Sx.want hx h1 _ g1|exact Sx.gB hx h2 _ g2|exact Sx.want hx h3 _ g3|exact Sx.want hx h4 _ g4));clear hx;rintro e w2 ⟨rfl,hx⟩)|(go_at_call 28;(with_reducible refine(Sx.NM  hx 15 y1 ).mono ?_);clear hx;rintro e w2 ⟨b0,rfl,hx⟩))
 all_goals first|exact⟨rfl,rfl,ht,hu⟩|(go_ret;exact hx.res (aH ..))
theorem FX(n:Nat)(ce:fZ 148 .ex n):Nh 149 (n+1):=by
 intro W0 W cb Ys v s b nd ks r hlen hx hP
 have iy:=hid hlen
 clear hlen
 simp only[P] at hP
 rcases bK hP with⟨f,h1,rfl⟩|⟨y1,h1,g1,rfl⟩|⟨y1,h1,g1,hP⟩
 rotate_left
 rotate_left
 have HP:=hid hP
 clear hP
 focus
  go_enter func149,ntmps149
  go_upto_region 2 with((go_at_call 50;(with_reducible refine(Sx.want hx h1 _ g1).mono ?_);clear hx;rintro e w2 ⟨rfl,hx⟩))
  obtain⟨u,bk,hbr⟩:=Br.of (hx.ts (b,Fo.one nd ks) (by simp))
  have hlen:=bg.len hbr.kids
  obtain⟨uo,uc,rfl⟩:=hbr.slice
  replace hx:=hx.drew
  have HB:=hid (hbr.upd hx.cx.lt (It.bL.of_below (aL _ _).drew))
  have HL:=hid hlen
  clear hbr hlen
  refine It.bM (z:=11) (S:=λw'=>w'.cell? ⟨b,6,none⟩=some (Value.slice uo bk.length uc)) (by kernel_rfl) ?_
  have hS:_:=(aA HB.out.top 6:_=some (Value.slice uo bk.length uc))
  iterate 6 ((refine It.nL 0 ?_ rfl (by kernel_rfl) (λ_ _ _ h=>h) (Or.inl ⟨by rfl,?_⟩) hS ?_);rotate_left;(focus (intro w' hSw;go_simp;(try with_reducible rfl)));(try simp only[Act.put,aW,aV,aU,aT,aS,aR]))
  refine It.aD (i:=6) (by kernel_rfl) rfl rfl (λK hK=>?_)
  refine It.aB (λc h=>by cases h) ?_
  have HK:=hid hK
  clear hK
  go_simp
  replace hP:=HP.out
  rcases aX hP with⟨f,q9,rfl⟩|⟨f9,s9,q9,hP⟩
  ·refine(hx.dN ce q9).mono ?_
   rintro e w9 ⟨he,ht,hu⟩
   unfold kC fv at he
   subst he
   exact⟨rfl,rfl,ht,hu⟩
  clear HP
  have qU:=hid hP
  clear hP
  refine(hx.jZ ce q9).mono ?_
  rintro e w2 ⟨x,rfl,hx2,hU,hfx⟩
  have hb2:=HB.out.upd hx.cx.lt hU
  refine HK.out _ _ (.inr (aA hb2.top 6)) ?_
  clear HK hS
  (try simp only[Act.put,aW,aV,aU,aT,aS,aR])
  obtain⟨u2,w4,hrun,ho2,hg2,hk2⟩:=fF w2 68 (.slice uo bk.length uc) bk.length _ hb2.row hx2.cx.upd.size x (by have:=HL.out;have:=iy.out;omega)
  obtain⟨o2,c2,rfl⟩:=aI ho2
  refine It.aD (i:=7) (by kernel_rfl) rfl rfl (λK hK=>?_)
  refine It.aB (λc h=>by cases h) ?_
  have HK:=hid hK
  clear hK
  go_simp
  have hb3:=aF hb2.top ((aL _ w2).alloc (aY _) (.cells #[ptr x] 54))
  refine HK.out _ _ (.inr (aA hb3 6)) ?_
  clear HK
  (try simp only[Act.put,aW,aV,aU,aT,aS,aR])
  refine It.aD (i:=8) (by kernel_rfl) rfl rfl (λK hK=>?_)
  refine It.aB (λc h=>by cases h) ?_
  refine ay _ (.tmp 11) (.tmp 14) 68 68 rfl _ _ rfl rfl _ _ hrun ?_
  have t4:=(hg2.block _ (bO.1 hb3).1 (λe=>HB.out.ne _ e.symm rfl)).trans hb3
  have hS:_:=(aA t4 6:_=some (Value.slice uo bk.length uc))
  refine hK _ _ (.inr hS) ?_
  clear hK K hrun
  (try simp only[Act.put,aW,aV,aU,aT,aS,aR])
  refine It.aD (i:=9) (by kernel_rfl) rfl rfl (λK hK=>?_)
  refine It.aB (λc h=>by cases h) ?_
  have HK:=hid hK
  clear hK
  go_simp
  refine HK.out _ _ (.inr hS) ?_
  clear HK
  (try simp only[Act.put,aW,aV,aU,aT,aS,aR])
  refine It.aD (i:=10) (by kernel_rfl) rfl rfl (λK hK=>?_)
  refine It.aB (λc h=>by cases h) ?_
  have HK:=hid hK
  clear hK
  go_simp
  refine HK.out _ _ (.inr hS) ?_
  clear HK
  (try simp only[Act.put,aW,aV,aU,aT,aS,aR])
  refine It.aD (i:=11) (by kernel_rfl) rfl rfl (λK hK=>?_)
  refine It.aB (λc h=>by cases h) ?_
  have HK:=hid hK
  clear hK
  have zz:=aC t4 6
  go_simp
  have hx3:=hx2.append hU hx.cx.upd.size HB.out hfx ho2 hg2 hk2
  refine HK.out _ _ (.inl rfl) ?_
  clear HK
  (try simp only[Act.put,aW,aV,aU,aT,aS,aR])
  replace hx:=hx3
  clear hx3 hx2 hU hfx HB HL hb2 hb3 t4 zz hS ho2 hg2 hk2
  refine It.bQ (by kernel_rfl) ?_ _
 replace hP:=qU.out
 rcases bK hP with⟨f,h2,rfl⟩|⟨y2,h2,g2,rfl⟩|⟨y2,h2,g2,hP⟩
 rotate_left
 rotate_left
 obtain rfl:=aQ hP
 rotate_left
 all_goals (try clear hP)
 all_goals first|(guard_target =~ Calls _ _ _ _ _;go_enter func149,ntmps149)|skip
 all_goals go_wp2_with (first|((with_reducible (apply Calls.mono;first|exact Sx.aN hx h1 _|exact Sx.fG hx h1 _ g1|exact Sx.aN hx h2 _|exact Sx.fG hx h2 _ g2));rintro e w9 ⟨he,ht,hu⟩;(unfold kC fv at he);subst he)|(go_at_call 50;(with_reducible refine(Sx.want hx h2 _ g2).mono ?_);clear hx;rintro e w2 ⟨rfl,hx⟩))
 all_goals first|exact⟨rfl,rfl,ht,hu⟩|(go_ret;exact⟨rfl,hx⟩)
theorem Pb(n:Nat)(cs:∀m,m<=n->fZ 83 .st m):fZ 55 .bl (n+1):=by
 intro W cb Ys v s r hC hP
 have hx:=Sx.start hC
 clear hC
 simp only[P] at hP
 rcases bK hP with⟨f,h1,rfl⟩|⟨y1,h1,g1,rfl⟩|⟨y1,h1,g1,hP⟩
 rotate_left
 rotate_left
 ·obtain⟨rr,hQ,rfl⟩:=BS hP
  clear hP
  have HP:=hid hQ
  clear hQ
  go_enter func55,ntmps55
  go_wp2_with (first|(go_at_call 50;(with_reducible refine(Sx.want hx h1 _ g1).mono ?_);clear hx;rintro e w2 ⟨rfl,hx⟩)|(go_at_call 28;(with_reducible refine(Sx.NM  hx 5 y1 ).mono ?_);clear hx;rintro e w2 ⟨b0,rfl,hx⟩))
  have HX:=hid hx
  clear hx
  go_loopw [7] (λ_ wr=>∃ks s' m,Sx W wr cb Ys v s' [(b0,Fo.one (kT 5 y1) ks)] []/\P m (.zU ks) s'=some rr/\m<=n/\ks.len+s'.r.length<=Ys.length) (λ_ wr=>Ys.length-NK wr cb)
  case atStart=>exact⟨.nil,_,n,HX.out,HP.out,aY _,by have:=HX.out.all.1;simp only[Fo.len];omega⟩
  case round=>
   obtain⟨ks,s',m,hx,hP,hm,hks⟩:=hrel
   clear HP HX
   have HM:=hid hx.left
   have sZ:=hid (And.intro hks hx.all.2)
   clear hks
   match m,hP with
   | 0,hP=>exact(iY hP).elim
   | m+1,hP=>
    simp only[P] at hP
    rcases bU hP with⟨f,h2,rfl⟩|⟨y2,h2,hP⟩
    rotate_left
    by_cases g2:aG y2.t=nC
    rw[if_pos g2] at hP
    replace hP:=rF h2 g2 hP
    obtain rfl:=aQ hP
    rotate_left
    rw[if_neg g2] at hP
    have HP:=hid hP
    clear hP
    focus
     go_upto_region 3 with((go_at_call 30;(with_reducible refine(Sx.iO hx h2 _ g2).mono ?_);clear hx;rintro e w2 ⟨rfl,hx⟩))
     obtain⟨u,bk,hbr⟩:=Br.of (hx.ts (b0,Fo.one (kT 5 y1) ks) (by simp))
     have hlen:=bg.len hbr.kids
     obtain⟨uo,uc,rfl⟩:=hbr.slice
     replace hx:=hx.drew
     have HB:=hid (hbr.upd hx.cx.lt (It.bL.of_below (aL _ _).drew))
     have HL:=hid hlen
     clear hbr hlen
     refine It.bM (z:=11) (S:=λw'=>w'.cell? ⟨b0,6,none⟩=some (Value.slice uo bk.length uc)) (by kernel_rfl) ?_
     have hS:_:=(aA HB.out.top 6:_=some (Value.slice uo bk.length uc))
     iterate 6 ((refine It.nL 0 ?_ rfl (by kernel_rfl) (λ_ _ _ h=>h) (Or.inl ⟨by rfl,?_⟩) hS ?_);rotate_left;(focus (intro w' hSw;go_simp;(try with_reducible rfl)));(try simp only[Act.put,aW,aV,aU,aT,aS,aR]))
     refine It.aD (i:=6) (by kernel_rfl) rfl rfl (λK hK=>?_)
     refine It.aB (λc h=>by cases h) ?_
     have HK:=hid hK
     clear hK
     go_simp
     replace hP:=HP.out
     rcases aX hP with⟨f,q9,rfl⟩|⟨f9,s9,q9,hP⟩
     ·refine(hx.dN (cs m (by omega)) q9).mono ?_
      rintro e w9 ⟨he,ht,hu⟩
      unfold kC fv at he
      subst he
      exact⟨rfl,rfl,ht,hu⟩
     clear HP
     have qU:=hid hP
     clear hP
     refine(hx.jZ (cs m (by omega)) q9).mono ?_
     rintro e w2 ⟨x,rfl,hx2,hU,hfx⟩
     have hb2:=HB.out.upd hx.cx.lt hU
     refine HK.out _ _ (.inr (aA hb2.top 6)) ?_
     clear HK hS
     (try simp only[Act.put,aW,aV,aU,aT,aS,aR])
     obtain⟨u2,w4,hrun,ho2,hg2,hk2⟩:=fF w2 68 (.slice uo bk.length uc) bk.length _ hb2.row hx2.cx.upd.size x (by have:=HL.out;have:=sZ.out;omega)
     obtain⟨o2,c2,rfl⟩:=aI ho2
     refine It.aD (i:=7) (by kernel_rfl) rfl rfl (λK hK=>?_)
     refine It.aB (λc h=>by cases h) ?_
     have HK:=hid hK
     clear hK
     go_simp
     have hb3:=aF hb2.top ((aL _ w2).alloc (aY _) (.cells #[ptr x] 54))
     refine HK.out _ _ (.inr (aA hb3 6)) ?_
     clear HK
     (try simp only[Act.put,aW,aV,aU,aT,aS,aR])
     refine It.aD (i:=8) (by kernel_rfl) rfl rfl (λK hK=>?_)
     refine It.aB (λc h=>by cases h) ?_
     refine ay _ (.tmp 15) (.tmp 18) 68 68 rfl _ _ rfl rfl _ _ hrun ?_
     have t4:=(hg2.block _ (bO.1 hb3).1 (λe=>HB.out.ne _ e.symm rfl)).trans hb3
     have hS:_:=(aA t4 6:_=some (Value.slice uo bk.length uc))
     refine hK _ _ (.inr hS) ?_
     clear hK K hrun
     (try simp only[Act.put,aW,aV,aU,aT,aS,aR])
     refine It.aD (i:=9) (by kernel_rfl) rfl rfl (λK hK=>?_)
     refine It.aB (λc h=>by cases h) ?_
     have HK:=hid hK
     clear hK
     go_simp
     refine HK.out _ _ (.inr hS) ?_
     clear HK
     (try simp only[Act.put,aW,aV,aU,aT,aS,aR])
     refine It.aD (i:=10) (by kernel_rfl) rfl rfl (λK hK=>?_)
     refine It.aB (λc h=>by cases h) ?_
     have HK:=hid hK
     clear hK
     go_simp
     refine HK.out _ _ (.inr hS) ?_
     clear HK
     (try simp only[Act.put,aW,aV,aU,aT,aS,aR])
     refine It.aD (i:=11) (by kernel_rfl) rfl rfl (λK hK=>?_)
     refine It.aB (λc h=>by cases h) ?_
     have HK:=hid hK
     clear hK
     have zz:=aC t4 6
     go_simp
     have hx3:=hx2.append hU hx.cx.upd.size HB.out hfx ho2 hg2 hk2
     refine HK.out _ _ (.inl rfl) ?_
     clear HK
     (try simp only[Act.put,aW,aV,aU,aT,aS,aR])
     have HF:=hid (show _=1 from(bg.len hfx).symm)
     replace hx:=hx3
     clear hx3 hx2 hU hfx HB HL hb2 hb3 t4 zz hS ho2 hg2 hk2
     refine It.bQ (by kernel_rfl) ?_ _
     go_wp2
     go_roundw
     case rel=>
      have hle:=lT q9
      have e1:least .st=1:=rfl
      have h2:=sZ.out
      refine⟨_,_,m,hx,qU.out,by omega,?_⟩
      rw[Fo.gq,HF.out]
      omega
     case measure=>
      rw[hx.left,HM.out]
      have hle:=lT q9
      have e1:least .st=1:=rfl
      omega
    all_goals (try clear hP)
    all_goals go_wp2_with (first|(go_at_call 30;(with_reducible refine(Sx.kV hx h2 _ _).mono ?_);rintro e w9 ⟨he,ht,hu⟩;(unfold kC fv at he);subst he)|((with_reducible (apply Calls.mono;first|exact Sx.gB hx h2 _ g2|exact Sx.want hx h2 _ g2));clear hx;rintro e w2 ⟨rfl,hx⟩))
    all_goals first|exact⟨rfl,rfl,ht,hu⟩|(go_ret;exact hx.res (aH ..))
 all_goals (try clear hP)
 all_goals first|(guard_target =~ Calls _ _ _ _ _;go_enter func55,ntmps55)|skip
 all_goals go_wp2_with (((with_reducible (apply Calls.mono;first|exact Sx.aN hx h1 _|exact Sx.fG hx h1 _ g1));rintro e w9 ⟨he,ht,hu⟩;(unfold kC fv at he);subst he))
 all_goals first|exact⟨rfl,rfl,ht,hu⟩|(go_ret;exact hx.res (aH ..))
def sj(N:Nat)(fo:Fo):Prop:=∃m ks,fo=Fo.one m ks/\ks.len<=N
def Made(N:Nat):Nt->Fo->Prop
 | .ex,fo=>sj N fo
 | .xB _,fo=>sj N fo
 | .cj,fo=>sj N fo
 | .xH _,fo=>sj N fo
 | .ng,fo=>sj N fo
 | .cm,fo=>sj N fo
 | .bn _,fo=>sj N fo
 | .xM _ _,fo=>sj N fo
 | .un,fo=>sj N fo
 | .po,fo=>sj N fo
 | .wI _,fo=>sj N fo
 | .pr,fo=>sj N fo
 | .nm,fo=>sj N fo
 | .wd,fo=>sj N fo
 | .ls _,fo=>fo.len<=N
 | .oq _ _,fo=>fo.len<=N
 | _,_=>True
def Pre(N:Nat)(s:Cs):Nt->Prop
 | .xB l=>sj N l
 | .xH l=>sj N l
 | .xM _ l=>sj N l
 | .wI l=>sj N l
 | .oq _ l=>l.len+s.r.length<=N
 | _=>True
theorem sj.len{N:Nat}{fo:Fo}(h:sj N fo):fo.len=1:=by
 obtain⟨m,ks,rfl,_⟩:=h
 rfl
theorem sN{N:Nat}{nd:Nd}{a c:Fo}(h:sj N a)(h2:sj N c)(hN:2<=N):sj N (Fo.one nd (a.app c)):=⟨nd,_,rfl,by rw[Fo.gq,h.len,h2.len];exact hN⟩
theorem Gc{N:Nat}{nd:Nd}{a:Fo}(h:sj N a)(hN:2<=N):sj N (Fo.one nd a):=⟨nd,_,rfl,by rw[h.len];omega⟩
theorem nX{N:Nat}{nd:Nd}:sj N (Fo.one nd .nil):=⟨nd,_,rfl,Nat.zero_le _⟩
theorem made:∀ (n:Nat) (nt:Nt) (N:Nat) (s:Cs) (fo:Fo) (s':Cs),s.r.length+2<=N->Pre N s nt->P n nt s=some (.ok (fo,s'))->Made N nt fo
 | 0,nt,N,s,fo,s',hN,hp,h=>(iY h).elim
 | n+1,nt,N,s,fo,s',hN,hp,h=>by
  have ih:=made n
  have h2:2<=N:=by omega
  have tk:∀ {y:Yd} {s:Cs},look s=.ok y->(behind y s).r.length<s.r.length:=λhy=>iH hy
  have le:∀ {nt:Nt} {s s':Cs} {fo:Fo},P n nt s=some (.ok (fo,s'))->s'.r.length<=s.r.length:=λh=>Nat.le_trans (Nat.le_add_right _ _) (lT h)
  cases nt <;> simp only[P] at h <;> (try trivial)
  case ex=>
   rcases aX h with⟨f,_,e⟩|⟨l,s1,h1,h⟩
   ·cases e
   exact ih (.xB l) N s1 fo s' (by have:=le h1;omega) (ih .cj N s l s1 hN trivial h1) h
  case xB l=>
   rcases bU h with⟨f,_,e⟩|⟨y,hy,h⟩
   ·cases e
   split at h
   ·replace h:=dK hy h
    have:=tk hy
    rcases aX h with⟨f,_,e⟩|⟨r,s1,h1,h⟩
    ·cases e
    have hl:=le h1
    exact ih (.xB (Fo.one (kT 18 y) (l.app r))) N s1 fo s' (by omega) (sN hp (ih .cj N _ r s1 (by omega) trivial h1) h2) h
   ·cases aQ h
    exact hp
  case cj=>
   rcases aX h with⟨f,_,e⟩|⟨l,s1,h1,h⟩
   ·cases e
   exact ih (.xH l) N s1 fo s' (by have:=le h1;omega) (ih .ng N s l s1 hN trivial h1) h
  case xH l=>
   rcases bU h with⟨f,_,e⟩|⟨y,hy,h⟩
   ·cases e
   split at h
   ·replace h:=dK hy h
    have:=tk hy
    rcases aX h with⟨f,_,e⟩|⟨r,s1,h1,h⟩
    ·cases e
    have hl:=le h1
    exact ih (.xH (Fo.one (kT 19 y) (l.app r))) N s1 fo s' (by omega) (sN hp (ih .ng N _ r s1 (by omega) trivial h1) h2) h
   ·cases aQ h
    exact hp
  case ng=>
   rcases bU h with⟨f,_,e⟩|⟨y,hy,h⟩
   ·cases e
   split at h
   ·replace h:=dK hy h
    have:=tk hy
    rcases aX h with⟨f,_,e⟩|⟨r,s1,h1,h⟩
    ·cases e
    cases aQ h
    exact Gc (ih .ng N _ r s' (by omega) trivial h1) h2
   ·exact ih .cm N s fo s' hN trivial h
  case cm=>
   rcases aX h with⟨f,_,e⟩|⟨l,s1,h1,h⟩
   ·cases e
   have hl:=le h1
   have fl:=ih (.bn 1) N s l s1 hN trivial h1
   rcases bU h with⟨f,_,e⟩|⟨y,hy,h⟩
   ·cases e
   split at h
   ·replace h:=dK hy h
    have:=tk hy
    rcases aX h with⟨f,_,e⟩|⟨r,s2,h3,h⟩
    ·cases e
    cases aQ h
    exact sN fl (ih (.bn 1) N _ r s' (by omega) trivial h3) h2
   ·cases aQ h
    exact fl
  case bn k=>
   split at h
   ·exact ih .un N s fo s' hN trivial h
   ·rcases aX h with⟨f,_,e⟩|⟨l,s1,h1,h⟩
    ·cases e
    exact ih (.xM k l) N s1 fo s' (by have:=le h1;omega) (ih (.bn (k+1)) N s l s1 hN trivial h1) h
  case xM k l=>
   rcases bU h with⟨f,_,e⟩|⟨y,hy,h⟩
   ·cases e
   split at h
   ·replace h:=dK hy h
    have:=tk hy
    rcases aX h with⟨f,_,e⟩|⟨r,s1,h1,h⟩
    ·cases e
    have hl:=le h1
    exact ih (.xM k (Fo.one (jr 21 y) (l.app r))) N s1 fo s' (by omega) (sN hp (ih (.bn (k+1)) N _ r s1 (by omega) trivial h1) h2) h
   ·cases aQ h
    exact hp
  case un=>
   rcases bU h with⟨f,_,e⟩|⟨y,hy,h⟩
   ·cases e
   split at h
   ·replace h:=dK hy h
    have:=tk hy
    rcases aX h with⟨f,_,e⟩|⟨r,s1,h1,h⟩
    ·cases e
    cases aQ h
    exact Gc (ih .un N _ r s' (by omega) trivial h1) h2
   ·exact ih .po N s fo s' hN trivial h
  case po=>
   rcases aX h with⟨f,_,e⟩|⟨l,s1,h1,h⟩
   ·cases e
   exact ih (.wI l) N s1 fo s' (by have:=le h1;omega) (ih .pr N s l s1 hN trivial h1) h
  case wI l=>
   rcases bU h with⟨f,_,e⟩|⟨y,hy,h⟩
   ·cases e
   split at h
   ·replace h:=dK hy h
    have:=tk hy
    rcases aX h with⟨f,_,e⟩|⟨r,s1,h1,h⟩
    ·cases e
    have hl:=le h1
    rcases bK h with⟨f,_,e⟩|⟨y2,_,_,e⟩|⟨y2,hy2,_,h⟩
    ·cases e
    ·cases e
    have:=tk hy2
    exact ih (.wI (Fo.one (kT 24 y) (l.app r))) N _ fo s' (by omega) (sN hp (ih .ex N _ r s1 (by omega) trivial h1) h2) h
   ·cases aQ h
    exact hp
  case pr=>
   rcases bU h with⟨f,_,e⟩|⟨y,hy,h⟩
   ·cases e
   split at h
   ·replace h:=dK hy h
    cases aQ h
    exact nX
   split at h
   ·replace h:=dK hy h
    cases aQ h
    exact nX
   split at h
   ·replace h:=dK hy h
    cases aQ h
    exact nX
   split at h
   ·exact ih .nm N s fo s' hN trivial h
   split at h
   ·exact ih .wd N s fo s' hN trivial h
   rcases bK h with⟨f,_,e⟩|⟨y2,_,_,e⟩|⟨y2,hy2,_,h⟩
   ·cases e
   ·cases e
   have:=tk hy2
   rcases aX h with⟨f,_,e⟩|⟨r,s1,h1,h⟩
   ·cases e
   rcases bK h with⟨f,_,e⟩|⟨y3,_,_,e⟩|⟨y3,hy3,_,h⟩
   ·cases e
   ·cases e
   cases aQ h
   exact ih .ex N _ _ s1 (by omega) trivial h1
  case nm=>
   rcases iU h with⟨f,_,e⟩|⟨y,_,_,e⟩|⟨y,hy,_,h⟩
   ·cases e
   ·cases e
   have:=tk hy
   rcases bU h with⟨f,_,e⟩|⟨z,hz,h⟩
   ·cases e
   split at h
   ·rcases aX h with⟨f,_,e⟩|⟨l,s1,h1,h⟩
    ·cases e
    cases aQ h
    exact⟨_,_,rfl,ih (.ls false) N _ l s' (by omega) trivial h1⟩
   ·cases aQ h
    exact nX
  case wd=>
   rcases bU h with⟨f,_,e⟩|⟨y,hy,h⟩
   ·cases e
   split at h
   ·replace h:=dK hy h
    cases aQ h
    exact nX
   split at h
   ·replace h:=dK hy h
    cases aQ h
    exact nX
   rcases bK h with⟨f,_,e⟩|⟨y2,_,_,e⟩|⟨y2,hy2,_,h⟩
   ·cases e
   ·cases e
   cases aQ h
   exact nX
  case ls p=>
   rcases bK h with⟨f,_,e⟩|⟨y2,_,_,e⟩|⟨y2,hy2,_,h⟩
   ·cases e
   ·cases e
   have:=tk hy2
   exact ih (.oq p .nil) N _ fo s' (by omega) (by simp only[Pre,Fo.len];omega) h
  case oq p l=>
   have hp':l.len+s.r.length<=N:=hp
   rcases bU h with⟨f,_,e⟩|⟨y,hy,h⟩
   ·cases e
   split at h
   ·rcases bK h with⟨f,_,e⟩|⟨y2,_,_,e⟩|⟨y2,hy2,_,h⟩
    ·cases e
    ·cases e
    cases aQ h
    show fo.len<=N
    omega
   rcases aX h with⟨f,_,e⟩|⟨y3,s1,h1,h⟩
   ·cases e
   have hs1:s1.r.length<=s.r.length:=by
    split at h1
    ·cases aQ h1
     omega
    ·have h1':(dw nE).bind (λa=>Pm.pure a) s=some (.ok (y3,s1)):=by
      unfold Pm.bind
      rw[h1]
      rfl
     rcases bK h1' with⟨f,_,e⟩|⟨y2,_,_,e⟩|⟨y2,hy2,_,h1'⟩
     ·cases e
     ·cases e
     cases aQ h1'
     have:=tk hy2
     omega
   rcases aX h with⟨f,_,e⟩|⟨x,s2,h3,h⟩
   ·cases e
   have hx:x.len=1/\s2.r.length+1<=s1.r.length:=by
    cases p
    ·have a:=lT h3
     have c:sj N x:=ih .ex N s1 x s2 (by omega) trivial h3
     exact⟨c.len,a⟩
    ·have a:=lT h3
     refine⟨?_,a⟩
     match n,h3 with
     | 0,h3=>exact(iY h3).elim
     | k+1,h3=>
      simp only[P,if_true] at h3
      rcases iU h3 with⟨f,_,e⟩|⟨y,_,_,e⟩|⟨y,hy,_,h3⟩
      ·cases e
      ·cases e
      cases aQ h3
      rfl
   exact ih (.oq p (l.app x)) N s2 fo s' (by omega) (by show (l.app x).len+s2.r.length<=N;rw[Fo.gq];omega) h
theorem Hg{α:Type}{k:Yd->Pm α}{s:Cs}{r:Rs α}(h:eG.bind k s=some r):(∃e,look s=.error e/\r=.error e)\/∃y,look s=.ok y/\k y (behind y s)=some r:=by
 unfold Pm.bind eG at h
 cases hx:look s with
 | error e=>rw[hx] at h;exact .inl ⟨e,rfl,(Option.some.inj h).symm⟩
 | ok y=>rw[hx] at h;exact .inr ⟨y,rfl,h⟩
theorem Sx.VO{W0 W w' W2:World}{cb:Nat}{Ys:List Yd}{v:Value}{s:Cs}{L:List (Nat × Fo)}{M:List (Nat × Yd)}(h:Sx W0 W cb Ys v s L M){bs:List Nat}{ks:Fo}{nd:Nd}(hk:bg W (λk=>W0.heap.size<=k) bs ks)(hl:bs.length<=maxLen)(hr:W2=W.alloc (.cells (bs.map ptr).toArray 54))(hB:Below W2.heap.size W2 w')(hb:w'.heap[W2.heap.size]? = some (.cells (oI nd (.slice (some ⟨W.heap.size,0,none⟩) bs.length bs.length)) 70 (0,0))):Sx W0 w' cb Ys v s ((W2.heap.size,Fo.one nd ks)::L) M:=by
 have hB1:Below W.heap.size W W2:=by rw[hr];exact(aL _ W).alloc (aY _) _
 have h2:=(h.below hB1).below hB
 have hz:W2.heap.size=W.heap.size+1:=by rw[hr];simp
 have hr2:W2.heap[W.heap.size]? = some (.cells (bs.map ptr).toArray 54 (0,0)):=by rw[hr];exact World.alloc_heap_new W _
 have hr3:=aF hr2 hB
 have hm:=h.cx.upd.size
 refine⟨h2.cx,?_,h2.tk⟩
 intro p hp
 rcases List.mem_cons.1 hp with rfl|hp
 ·refine bg.mk (by omega) hb (zm hr3 hl) ?_ ?_
  ·intro k e
   have:k=W.heap.size:=(Option.some.inj e).symm
   omega
  ·refine bg.mono ?_ (((hk.lt).below hB1).below hB)
   intro k e
   refine⟨e.1,by omega,?_⟩
   intro c
   have:W.heap.size=k:=Option.some.inj c
   omega
 ·exact h2.ts p hp
end Go.Proofs.YtgchnkgolclmgaaGreatDoor.W.Tr

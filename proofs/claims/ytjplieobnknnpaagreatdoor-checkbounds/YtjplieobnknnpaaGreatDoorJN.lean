import Derived.Test.YtjplieobnknnpaaGreatDoorJG
import Derived.Test.YtjplieobnknnpaaGreatDoorJM
import Derived.Test.YtjplieobnknnpaaGreatDoorJV
open List renaming mem_cons_self → z0z
open Array renaming getElem?_eq_some_iff → z4z
open Nat renaming le_refl → z2z
open Go.RowKit.Below renaming refl → z1z
open Go.Lib renaming wp_append_run → z3z
open Go.Proofs.Tryz
open List renaming getElem_toArray → zx1, getElem_cons_zero → zx2, getElem_cons_succ → zx3, setIfInBounds_toArray → zx4, set_cons_zero → zx5, set_cons_succ → zx6
set_option maxRecDepth 1000000
set_option maxHeartbeats 8000000
namespace Go.Proofs.YtjplieobnknnpaaGreatDoor.W.Tr
open Go.ChangeShapes Go.WideShapes Go.RowKit Go.Shelf
set_option linter.unusedVariables false
set_option linter.unusedSimpArgs false
theorem ji(n:Nat)  : AX 58 .pm (n+1):=by
 intro W cb Ys v s r hC hP
 have hx:=Sx.start hC
 clear hC
 simp only[P] at hP
 rcases Iz hP with⟨f,h1,rfl⟩|⟨y1,h1,g1,rfl⟩|⟨y1,h1,g1,hP⟩
 rotate_left
 rotate_left
 have G1:=hid g1
 clear g1
 obtain rfl:=Ag hP
 rotate_left
 all_goals (try clear hP)
 all_goals first|(guard_target =~ Calls _ _ _ _ _;go_enter func58,ntmps58)|skip
 all_goals go_wp2_with (first|((with_reducible (apply Calls.mono;first|exact Sx.nameE hx h1|exact Sx.Az hx h1 g1));rintro e w9 ⟨he,ht,hu⟩;(unfold Aq fv at he);subst he)|(go_at_call 55;(with_reducible refine(Sx.name hx h1 G1.out).mono ?_);clear hx;rintro e w2 ⟨rfl,hx⟩)|(go_at_call 56;(with_reducible refine(Sx.of0  hx 4 y1 ).mono ?_);clear hx;rintro e w2 ⟨b0,rfl,hx⟩))
 all_goals first|exact⟨rfl,rfl,ht,hu⟩|(go_ret;exact hx.res (z0z ..))
theorem wI(n:Nat)  : AX 34 .gl (n+1):=by
 intro W cb Ys v s r hC hP
 have hx:=Sx.start hC
 clear hC
 simp only[P] at hP
 rcases Bp hP with⟨f,h1,rfl⟩|⟨y1,h1,g1,rfl⟩|⟨y1,h1,g1,hP⟩
 rotate_left
 rotate_left
 rcases Iz hP with⟨f,h2,rfl⟩|⟨y2,h2,g2,rfl⟩|⟨y2,h2,g2,hP⟩
 rotate_left
 rotate_left
 have G2:=hid g2
 clear g2
 rcases Bp hP with⟨f,h3,rfl⟩|⟨y3,h3,g3,rfl⟩|⟨y3,h3,g3,hP⟩
 rotate_left
 rotate_left
 obtain rfl:=Ag hP
 rotate_left
 all_goals (try clear hP)
 all_goals first|(guard_target =~ Calls _ _ _ _ _;go_enter func34,ntmps34)|skip
 all_goals go_wp2_with (first|((with_reducible (apply Calls.mono;first|exact Sx.wantE hx h1 _|exact Sx.wantB hx h1 _ g1|exact Sx.nameE hx h2|exact Sx.Az hx h2 g2|exact Sx.wantE hx h3 _|exact Sx.wantE (hx.keepTok y2) h3 _|exact Sx.wantB hx h3 _ g3|exact Sx.wantB (hx.keepTok y2) h3 _ g3));rintro e w9 ⟨he,ht,hu⟩;(unfold Aq fv at he);subst he)|(go_at_call 54;(with_reducible refine(Sx.want hx h1 _ g1).mono ?_);clear hx;rintro e w2 ⟨rfl,hx⟩)|(go_at_call 55;(with_reducible refine(Sx.name hx h2 G2.out).mono ?_);rintro e w2 ⟨he,hx2⟩;(unfold tv at he);subst he;(replace hx:=hx2);clear hx2)|((with_reducible (apply Calls.mono;first|exact Sx.want hx h3 _ g3|exact Sx.want (hx.keepTok y2) h3 _ g3));clear hx;rintro e w2 ⟨rfl,hx⟩;(try obtain⟨x0,x1,x2,x3,x4⟩:=hx.tok (z0z ..)))|((with_reducible (apply Calls.mono;first|exact Sx.of0X hx 2 y2|exact Sx.of0X (hx.keepTok y2) 2 y2));clear hx;rintro e w2 ⟨b0,rfl,hx⟩))
 all_goals first|exact⟨rfl,rfl,ht,hu⟩|(go_ret;exact hx.res (z0z ..))
theorem jD(n:Nat)(ce:AX 170 .ex n):AX 134 .lt (n+1):=by
 intro W cb Ys v s r hC hP
 have hx:=Sx.start hC
 clear hC
 simp only[P] at hP
 rcases Bp hP with⟨f,h1,rfl⟩|⟨y1,h1,g1,rfl⟩|⟨y1,h1,g1,hP⟩
 rotate_left
 rotate_left
 rcases Iz hP with⟨f,h2,rfl⟩|⟨y2,h2,g2,rfl⟩|⟨y2,h2,g2,hP⟩
 rotate_left
 rotate_left
 have G2:=hid g2
 clear g2
 rcases Bp hP with⟨f,h3,rfl⟩|⟨y3,h3,g3,rfl⟩|⟨y3,h3,g3,hP⟩
 rotate_left
 rotate_left
 rcases Af hP with⟨f,q4,rfl⟩|⟨f4,s4,q4,hP⟩
 rotate_left
 rcases Bp hP with⟨f,h5,rfl⟩|⟨y5,h5,g5,rfl⟩|⟨y5,h5,g5,hP⟩
 rotate_left
 rotate_left
 obtain rfl:=Ag hP
 rotate_left
 all_goals (try clear hP)
 all_goals first|(guard_target =~ Calls _ _ _ _ _;go_enter func134,ntmps134)|skip
 all_goals go_wp2_with (first|((with_reducible (apply Calls.mono;first|exact Sx.wantE hx h1 _|exact Sx.wantB hx h1 _ g1|exact Sx.nameE hx h2|exact Sx.Az hx h2 g2|exact Sx.wantE hx h3 _|exact Sx.wantE (hx.keepTok y2) h3 _|exact Sx.wantB hx h3 _ g3|exact Sx.wantB (hx.keepTok y2) h3 _ g3|exact Sx.partE hx ce q4|exact Sx.partE (hx.keepTok y2) ce q4|exact Sx.wantE hx h5 _|exact Sx.wantE (hx.keepTok y2) h5 _|exact Sx.wantB hx h5 _ g5|exact Sx.wantB (hx.keepTok y2) h5 _ g5));rintro e w9 ⟨he,ht,hu⟩;(unfold Aq fv at he);subst he)|(go_at_call 54;(with_reducible refine(Sx.want hx h1 _ g1).mono ?_);clear hx;rintro e w2 ⟨rfl,hx⟩)|(go_at_call 55;(with_reducible refine(Sx.name hx h2 G2.out).mono ?_);rintro e w2 ⟨he,hx2⟩;(unfold tv at he);subst he;(replace hx:=hx2);clear hx2)|((with_reducible (apply Calls.mono;first|exact Sx.want hx h3 _ g3|exact Sx.want (hx.keepTok y2) h3 _ g3|exact Sx.want hx h5 _ g5|exact Sx.want (hx.keepTok y2) h5 _ g5));clear hx;rintro e w2 ⟨rfl,hx⟩;(try obtain⟨x0,x1,x2,x3,x4⟩:=hx.tok (z0z ..)))|((with_reducible (apply Calls.mono;first|exact Sx.part hx ce q4|exact Sx.part (hx.keepTok y2) ce q4));clear hx;rintro e w2 ⟨b4,rfl,hx⟩;(try obtain⟨x0,x1,x2,x3,x4⟩:=hx.tok (z0z ..)))|((with_reducible (apply Calls.mono;first|exact Sx.of1X (b1:=b4) (f1:=f4) hx 6 y2 (by simp)|exact Sx.of1X (b1:=b4) (f1:=f4) (hx.keepTok y2) 6 y2 (by simp)));clear hx;rintro e w2 ⟨b0,rfl,hx⟩))
 all_goals first|exact⟨rfl,rfl,ht,hu⟩|(go_ret;exact hx.res (z0z ..))
theorem uL(n:Nat)(ce:AX 170 .ex n)(cb1:AX 59 .bl n):AX 136 .wh (n+1):=by
 intro W cb Ys v s r hC hP
 have hx:=Sx.start hC
 clear hC
 simp only[P] at hP
 rcases Bp hP with⟨f,h1,rfl⟩|⟨y1,h1,g1,rfl⟩|⟨y1,h1,g1,hP⟩
 rotate_left
 rotate_left
 rcases Af hP with⟨f,q2,rfl⟩|⟨f2,s2,q2,hP⟩
 rotate_left
 rcases Af hP with⟨f,q3,rfl⟩|⟨f3,s3,q3,hP⟩
 rotate_left
 obtain rfl:=Ag hP
 rotate_left
 all_goals (try clear hP)
 all_goals first|(guard_target =~ Calls _ _ _ _ _;go_enter func136,ntmps136)|skip
 all_goals go_wp2_with (first|((with_reducible (apply Calls.mono;first|exact Sx.wantE hx h1 _|exact Sx.wantB hx h1 _ g1|exact Sx.partE hx ce q2|exact Sx.partE hx cb1 q3));rintro e w9 ⟨he,ht,hu⟩;(unfold Aq fv at he);subst he)|(go_at_call 54;(with_reducible refine(Sx.want hx h1 _ g1).mono ?_);clear hx;rintro e w2 ⟨rfl,hx⟩)|(go_at_call 170;(with_reducible refine(Sx.part hx ce q2).mono ?_);clear hx;rintro e w2 ⟨b2,rfl,hx⟩)|(go_at_call 59;(with_reducible refine(Sx.part hx cb1 q3).mono ?_);clear hx;rintro e w2 ⟨b3,rfl,hx⟩)|(go_at_call 31;(with_reducible refine(Sx.at2 (b1:=b2) (f1:=f2) (b2:=b3) (f2:=f3) hx 10 y1 (by simp) (by simp)).mono ?_);clear hx;rintro e w2 ⟨b0,rfl,hx⟩))
 all_goals first|exact⟨rfl,rfl,ht,hu⟩|(go_ret;exact hx.res (z0z ..))
theorem ACZ(n:Nat)(ce:AX 170 .ex n):AX 140 .ou (n+1):=by
 intro W cb Ys v s r hC hP
 have hx:=Sx.start hC
 clear hC
 simp only[P] at hP
 rcases Bp hP with⟨f,h1,rfl⟩|⟨y1,h1,g1,rfl⟩|⟨y1,h1,g1,hP⟩
 rotate_left
 rotate_left
 rcases Af hP with⟨f,q2,rfl⟩|⟨f2,s2,q2,hP⟩
 rotate_left
 rcases Bp hP with⟨f,h3,rfl⟩|⟨y3,h3,g3,rfl⟩|⟨y3,h3,g3,hP⟩
 rotate_left
 rotate_left
 obtain rfl:=Ag hP
 rotate_left
 all_goals (try clear hP)
 all_goals first|(guard_target =~ Calls _ _ _ _ _;go_enter func140,ntmps140)|skip
 all_goals go_wp2_with (first|((with_reducible (apply Calls.mono;first|exact Sx.wantE hx h1 _|exact Sx.wantB hx h1 _ g1|exact Sx.partE hx ce q2|exact Sx.wantE hx h3 _|exact Sx.wantB hx h3 _ g3));rintro e w9 ⟨he,ht,hu⟩;(unfold Aq fv at he);subst he)|((with_reducible (apply Calls.mono;first|exact Sx.want hx h1 _ g1|exact Sx.want hx h3 _ g3));clear hx;rintro e w2 ⟨rfl,hx⟩)|(go_at_call 170;(with_reducible refine(Sx.part hx ce q2).mono ?_);clear hx;rintro e w2 ⟨b2,rfl,hx⟩)|(go_at_call 31;(with_reducible refine(Sx.at1 (b1:=b2) (f1:=f2) hx 16 y1 (by simp)).mono ?_);clear hx;rintro e w2 ⟨b0,rfl,hx⟩))
 all_goals first|exact⟨rfl,rfl,ht,hu⟩|(go_ret;exact hx.res (z0z ..))
theorem mJ(n:Nat)(ce:AX 170 .ex n):AX 139 .rt (n+1):=by
 intro W cb Ys v s r hC hP
 have hx:=Sx.start hC
 clear hC
 simp only[P] at hP
 rcases Bp hP with⟨f,h1,rfl⟩|⟨y1,h1,g1,rfl⟩|⟨y1,h1,g1,hP⟩
 rotate_left
 rotate_left
 rcases CQ hP with⟨f,h2,rfl⟩|⟨y2,h2,hP⟩
 rotate_left
 by_cases g2:AP y2.t=Gx
 rw[if_pos g2] at hP
 rcases Bp hP with⟨f,h3,rfl⟩|⟨y3,h3,g3,rfl⟩|⟨y3,h3,g3,hP⟩
 rotate_left
 rotate_left
 obtain rfl:=Ag hP
 rotate_left
 rw[if_neg g2] at hP
 have HP:=hid hP
 clear hP
 focus
  go_enter func139,ntmps139
  go_upto_region 3 with(first|((with_reducible (apply Calls.mono;first|exact Sx.want hx h1 _ g1|exact Sx.sees1f hx h2 _ g2));clear hx;rintro e w2 ⟨rfl,hx⟩)|(go_at_call 31;(with_reducible refine(Sx.at0  hx 15 y1 ).mono ?_);clear hx;rintro e w2 ⟨b0,rfl,hx⟩))
  obtain⟨u,bk,hbr⟩:=Br.of (hx.ts (b0,Fo.one (Ap 15 y1) .nil) (by simp))
  have hlen:=Ac.len hbr.kids
  obtain⟨uo,uc,rfl⟩:=hbr.slice
  replace hx:=hx.drew
  have HB:=hid (hbr.upd hx.cx.lt (It.AL.of_below (z1z _ _).drew))
  have HL:=hid hlen
  clear hbr hlen
  refine It.Eu (z:=11) (S:=λw'=>w'.cell? ⟨b0,6,none⟩=some (Value.slice uo bk.length uc)) (by kernel_rfl) ?_
  have hS:_:=(AO HB.out.top 6:_=some (Value.slice uo bk.length uc))
  iterate 6 ((refine It.nL 0 ?_ rfl (by kernel_rfl) (λ_ _ _ h=>h) (Or.inl ⟨by rfl,?_⟩) hS ?_);rotate_left;(focus (intro w' hSw;go_simp;(try with_reducible rfl)));(try simp only[Act.put,zx1,zx2,zx3,zx4,zx5,zx6]))
  refine It.Aa (i:=6) (by kernel_rfl) rfl rfl (λK hK=>?_)
  refine It.AZ (λc h=>by cases h) ?_
  have HK:=hid hK
  clear hK
  go_simp
  replace hP:=HP.out
  rcases Af hP with⟨f,q9,rfl⟩|⟨f9,s9,q9,hP⟩
  ·refine(hx.partE ce q9).mono ?_
   rintro e w9 ⟨he,ht,hu⟩
   unfold Aq fv at he
   subst he
   exact⟨rfl,rfl,ht,hu⟩
  clear HP
  have HP2:=hid hP
  clear hP
  refine(hx.partN ce q9).mono ?_
  rintro e w2 ⟨x,rfl,hx2,hU,hfx⟩
  have hb2:=HB.out.upd hx.cx.lt hU
  refine HK.out _ _ (.inr (AO hb2.top 6)) ?_
  clear HK hS
  (try simp only[Act.put,zx1,zx2,zx3,zx4,zx5,zx6])
  obtain⟨u2,w4,hrun,ho2,hg2,hk2⟩:=IC w2 75 (.slice uo bk.length uc) bk.length _ hb2.row hx2.cx.upd.size x (by have:=HL.out;simp only[Fo.len] at this;omega)
  obtain⟨o2,c2,rfl⟩:=Ak ho2
  refine It.Aa (i:=7) (by kernel_rfl) rfl rfl (λK hK=>?_)
  refine It.AZ (λc h=>by cases h) ?_
  have HK:=hid hK
  clear hK
  go_simp
  have hb3:=AY hb2.top ((z1z _ w2).alloc (z2z _) (.cells #[ptr x] 56))
  refine HK.out _ _ (.inr (AO hb3 6)) ?_
  clear HK
  (try simp only[Act.put,zx1,zx2,zx3,zx4,zx5,zx6])
  refine It.Aa (i:=8) (by kernel_rfl) rfl rfl (λK hK=>?_)
  refine It.AZ (λc h=>by cases h) ?_
  refine z3z _ (.tmp 15) (.tmp 18) 75 75 rfl _ _ rfl rfl _ _ hrun ?_
  have t4:=(hg2.block _ (z4z.1 hb3).1 (λe=>HB.out.ne _ e.symm rfl)).trans hb3
  have hS:_:=(AO t4 6:_=some (Value.slice uo bk.length uc))
  refine hK _ _ (.inr hS) ?_
  clear hK K hrun
  (try simp only[Act.put,zx1,zx2,zx3,zx4,zx5,zx6])
  refine It.Aa (i:=9) (by kernel_rfl) rfl rfl (λK hK=>?_)
  refine It.AZ (λc h=>by cases h) ?_
  have HK:=hid hK
  clear hK
  go_simp
  refine HK.out _ _ (.inr hS) ?_
  clear HK
  (try simp only[Act.put,zx1,zx2,zx3,zx4,zx5,zx6])
  refine It.Aa (i:=10) (by kernel_rfl) rfl rfl (λK hK=>?_)
  refine It.AZ (λc h=>by cases h) ?_
  have HK:=hid hK
  clear hK
  go_simp
  refine HK.out _ _ (.inr hS) ?_
  clear HK
  (try simp only[Act.put,zx1,zx2,zx3,zx4,zx5,zx6])
  refine It.Aa (i:=11) (by kernel_rfl) rfl rfl (λK hK=>?_)
  refine It.AZ (λc h=>by cases h) ?_
  have HK:=hid hK
  clear hK
  have zz:=Bj t4 6
  go_simp
  have hx3:=hx2.append hU hx.cx.upd.size HB.out hfx ho2 hg2 hk2
  refine HK.out _ _ (.inl rfl) ?_
  clear HK
  (try simp only[Act.put,zx1,zx2,zx3,zx4,zx5,zx6])
  replace hx:=hx3
  clear hx3 hx2 hU hfx HB HL hb2 hb3 t4 zz hS ho2 hg2 hk2
  refine It.EU (by kernel_rfl) ?_ _
 replace hP:=HP2.out
 rcases Bp hP with⟨f,h4,rfl⟩|⟨y4,h4,g4,rfl⟩|⟨y4,h4,g4,hP⟩
 rotate_left
 rotate_left
 obtain rfl:=Ag hP
 rotate_left
 all_goals (try clear hP)
 all_goals first|(guard_target =~ Calls _ _ _ _ _;go_enter func139,ntmps139)|skip
 all_goals go_wp2_with (first|((with_reducible (apply Calls.mono;first|exact Sx.wantE hx h1 _|exact Sx.wantB hx h1 _ g1|exact Sx.seesE hx h2 _ _|exact Sx.wantE hx h3 _|exact Sx.wantB hx h3 _ g3|exact Sx.wantE hx h4 _|exact Sx.wantB hx h4 _ g4));rintro e w9 ⟨he,ht,hu⟩;(unfold Aq fv at he);subst he)|((with_reducible (apply Calls.mono;first|exact Sx.want hx h1 _ g1|exact Sx.sees1t hx h2 _ g2|exact Sx.want hx h3 _ g3|exact Sx.want hx h4 _ g4));clear hx;rintro e w2 ⟨rfl,hx⟩)|(go_at_call 31;(with_reducible refine(Sx.at0  hx 15 y1 ).mono ?_);clear hx;rintro e w2 ⟨b0,rfl,hx⟩))
 all_goals first|exact⟨rfl,rfl,ht,hu⟩|(go_ret;exact hx.res (z0z ..))
theorem iB(n:Nat)(ce:AX 170 .ex n):OV 171 (n+1):=by
 intro W0 W cb Ys v s b nd ks r hlen hx hP
 have HLN:=hid hlen
 clear hlen
 simp only[P] at hP
 rcases Bp hP with⟨f,h1,rfl⟩|⟨y1,h1,g1,rfl⟩|⟨y1,h1,g1,hP⟩
 rotate_left
 rotate_left
 have HP:=hid hP
 clear hP
 focus
  go_enter func171,ntmps171
  go_upto_region 2 with((go_at_call 54;(with_reducible refine(Sx.want hx h1 _ g1).mono ?_);clear hx;rintro e w2 ⟨rfl,hx⟩))
  obtain⟨u,bk,hbr⟩:=Br.of (hx.ts (b,Fo.one nd ks) (by simp))
  have hlen:=Ac.len hbr.kids
  obtain⟨uo,uc,rfl⟩:=hbr.slice
  replace hx:=hx.drew
  have HB:=hid (hbr.upd hx.cx.lt (It.AL.of_below (z1z _ _).drew))
  have HL:=hid hlen
  clear hbr hlen
  refine It.Eu (z:=11) (S:=λw'=>w'.cell? ⟨b,6,none⟩=some (Value.slice uo bk.length uc)) (by kernel_rfl) ?_
  have hS:_:=(AO HB.out.top 6:_=some (Value.slice uo bk.length uc))
  iterate 6 ((refine It.nL 0 ?_ rfl (by kernel_rfl) (λ_ _ _ h=>h) (Or.inl ⟨by rfl,?_⟩) hS ?_);rotate_left;(focus (intro w' hSw;go_simp;(try with_reducible rfl)));(try simp only[Act.put,zx1,zx2,zx3,zx4,zx5,zx6]))
  refine It.Aa (i:=6) (by kernel_rfl) rfl rfl (λK hK=>?_)
  refine It.AZ (λc h=>by cases h) ?_
  have HK:=hid hK
  clear hK
  go_simp
  replace hP:=HP.out
  rcases Af hP with⟨f,q9,rfl⟩|⟨f9,s9,q9,hP⟩
  ·refine(hx.partE ce q9).mono ?_
   rintro e w9 ⟨he,ht,hu⟩
   unfold Aq fv at he
   subst he
   exact⟨rfl,rfl,ht,hu⟩
  clear HP
  have HP2:=hid hP
  clear hP
  refine(hx.partN ce q9).mono ?_
  rintro e w2 ⟨x,rfl,hx2,hU,hfx⟩
  have hb2:=HB.out.upd hx.cx.lt hU
  refine HK.out _ _ (.inr (AO hb2.top 6)) ?_
  clear HK hS
  (try simp only[Act.put,zx1,zx2,zx3,zx4,zx5,zx6])
  obtain⟨u2,w4,hrun,ho2,hg2,hk2⟩:=IC w2 75 (.slice uo bk.length uc) bk.length _ hb2.row hx2.cx.upd.size x (by have:=HL.out;have:=HLN.out;omega)
  obtain⟨o2,c2,rfl⟩:=Ak ho2
  refine It.Aa (i:=7) (by kernel_rfl) rfl rfl (λK hK=>?_)
  refine It.AZ (λc h=>by cases h) ?_
  have HK:=hid hK
  clear hK
  go_simp
  have hb3:=AY hb2.top ((z1z _ w2).alloc (z2z _) (.cells #[ptr x] 56))
  refine HK.out _ _ (.inr (AO hb3 6)) ?_
  clear HK
  (try simp only[Act.put,zx1,zx2,zx3,zx4,zx5,zx6])
  refine It.Aa (i:=8) (by kernel_rfl) rfl rfl (λK hK=>?_)
  refine It.AZ (λc h=>by cases h) ?_
  refine z3z _ (.tmp 11) (.tmp 14) 75 75 rfl _ _ rfl rfl _ _ hrun ?_
  have t4:=(hg2.block _ (z4z.1 hb3).1 (λe=>HB.out.ne _ e.symm rfl)).trans hb3
  have hS:_:=(AO t4 6:_=some (Value.slice uo bk.length uc))
  refine hK _ _ (.inr hS) ?_
  clear hK K hrun
  (try simp only[Act.put,zx1,zx2,zx3,zx4,zx5,zx6])
  refine It.Aa (i:=9) (by kernel_rfl) rfl rfl (λK hK=>?_)
  refine It.AZ (λc h=>by cases h) ?_
  have HK:=hid hK
  clear hK
  go_simp
  refine HK.out _ _ (.inr hS) ?_
  clear HK
  (try simp only[Act.put,zx1,zx2,zx3,zx4,zx5,zx6])
  refine It.Aa (i:=10) (by kernel_rfl) rfl rfl (λK hK=>?_)
  refine It.AZ (λc h=>by cases h) ?_
  have HK:=hid hK
  clear hK
  go_simp
  refine HK.out _ _ (.inr hS) ?_
  clear HK
  (try simp only[Act.put,zx1,zx2,zx3,zx4,zx5,zx6])
  refine It.Aa (i:=11) (by kernel_rfl) rfl rfl (λK hK=>?_)
  refine It.AZ (λc h=>by cases h) ?_
  have HK:=hid hK
  clear hK
  have zz:=Bj t4 6
  go_simp
  have hx3:=hx2.append hU hx.cx.upd.size HB.out hfx ho2 hg2 hk2
  refine HK.out _ _ (.inl rfl) ?_
  clear HK
  (try simp only[Act.put,zx1,zx2,zx3,zx4,zx5,zx6])
  replace hx:=hx3
  clear hx3 hx2 hU hfx HB HL hb2 hb3 t4 zz hS ho2 hg2 hk2
  refine It.EU (by kernel_rfl) ?_ _
 replace hP:=HP2.out
 rcases Bp hP with⟨f,h2,rfl⟩|⟨y2,h2,g2,rfl⟩|⟨y2,h2,g2,hP⟩
 rotate_left
 rotate_left
 obtain rfl:=Ag hP
 rotate_left
 all_goals (try clear hP)
 all_goals first|(guard_target =~ Calls _ _ _ _ _;go_enter func171,ntmps171)|skip
 all_goals go_wp2_with (first|((with_reducible (apply Calls.mono;first|exact Sx.wantE hx h1 _|exact Sx.wantB hx h1 _ g1|exact Sx.wantE hx h2 _|exact Sx.wantB hx h2 _ g2));rintro e w9 ⟨he,ht,hu⟩;(unfold Aq fv at he);subst he)|(go_at_call 54;(with_reducible refine(Sx.want hx h2 _ g2).mono ?_);clear hx;rintro e w2 ⟨rfl,hx⟩))
 all_goals first|exact⟨rfl,rfl,ht,hu⟩|(go_ret;exact⟨rfl,hx⟩)
theorem AA6(n:Nat)(cs:∀m,m<=n->AX 96 .st m):AX 59 .bl (n+1):=by
 intro W cb Ys v s r hC hP
 have hx:=Sx.start hC
 clear hC
 simp only[P] at hP
 rcases Bp hP with⟨f,h1,rfl⟩|⟨y1,h1,g1,rfl⟩|⟨y1,h1,g1,hP⟩
 rotate_left
 rotate_left
 ·obtain⟨rr,hQ,rfl⟩:=au hP
  clear hP
  have HP:=hid hQ
  clear hQ
  go_enter func59,ntmps59
  go_wp2_with (first|(go_at_call 54;(with_reducible refine(Sx.want hx h1 _ g1).mono ?_);clear hx;rintro e w2 ⟨rfl,hx⟩)|(go_at_call 31;(with_reducible refine(Sx.at0  hx 5 y1 ).mono ?_);clear hx;rintro e w2 ⟨b0,rfl,hx⟩))
  have HX:=hid hx
  clear hx
  go_loopw [7] (λ_ wr=>∃ks s' m,Sx W wr cb Ys v s' [(b0,Fo.one (Ap 5 y1) ks)] []/\P m (.blT ks) s'=some rr/\m<=n/\ks.len+s'.r.length<=Ys.length) (λ_ wr=>Ys.length-I8 wr cb)
  case atStart=>exact⟨.nil,_,n,HX.out,HP.out,z2z _,by have:=HX.out.all.1;simp only[Fo.len];omega⟩
  case round=>
   obtain⟨ks,s',m,hx,hP,hm,hks⟩:=hrel
   clear HP HX
   have HM:=hid hx.left
   have HK2:=hid (And.intro hks hx.all.2)
   clear hks
   match m,hP with
   | 0,hP=>exact(Fa hP).elim
   | m+1,hP=>
    simp only[P] at hP
    rcases CQ hP with⟨f,h2,rfl⟩|⟨y2,h2,hP⟩
    rotate_left
    by_cases g2:AP y2.t=PK
    rw[if_pos g2] at hP
    replace hP:=PU h2 g2 hP
    obtain rfl:=Ag hP
    rotate_left
    rw[if_neg g2] at hP
    have HP:=hid hP
    clear hP
    focus
     go_upto_region 3 with((go_at_call 33;(with_reducible refine(Sx.sees1f hx h2 _ g2).mono ?_);clear hx;rintro e w2 ⟨rfl,hx⟩))
     obtain⟨u,bk,hbr⟩:=Br.of (hx.ts (b0,Fo.one (Ap 5 y1) ks) (by simp))
     have hlen:=Ac.len hbr.kids
     obtain⟨uo,uc,rfl⟩:=hbr.slice
     replace hx:=hx.drew
     have HB:=hid (hbr.upd hx.cx.lt (It.AL.of_below (z1z _ _).drew))
     have HL:=hid hlen
     clear hbr hlen
     refine It.Eu (z:=11) (S:=λw'=>w'.cell? ⟨b0,6,none⟩=some (Value.slice uo bk.length uc)) (by kernel_rfl) ?_
     have hS:_:=(AO HB.out.top 6:_=some (Value.slice uo bk.length uc))
     iterate 6 ((refine It.nL 0 ?_ rfl (by kernel_rfl) (λ_ _ _ h=>h) (Or.inl ⟨by rfl,?_⟩) hS ?_);rotate_left;(focus (intro w' hSw;go_simp;(try with_reducible rfl)));(try simp only[Act.put,zx1,zx2,zx3,zx4,zx5,zx6]))
     refine It.Aa (i:=6) (by kernel_rfl) rfl rfl (λK hK=>?_)
     refine It.AZ (λc h=>by cases h) ?_
     have HK:=hid hK
     clear hK
     go_simp
     replace hP:=HP.out
     rcases Af hP with⟨f,q9,rfl⟩|⟨f9,s9,q9,hP⟩
     ·refine(hx.partE (cs m (by omega)) q9).mono ?_
      rintro e w9 ⟨he,ht,hu⟩
      unfold Aq fv at he
      subst he
      exact⟨rfl,rfl,ht,hu⟩
     clear HP
     have HP2:=hid hP
     clear hP
     refine(hx.partN (cs m (by omega)) q9).mono ?_
     rintro e w2 ⟨x,rfl,hx2,hU,hfx⟩
     have hb2:=HB.out.upd hx.cx.lt hU
     refine HK.out _ _ (.inr (AO hb2.top 6)) ?_
     clear HK hS
     (try simp only[Act.put,zx1,zx2,zx3,zx4,zx5,zx6])
     obtain⟨u2,w4,hrun,ho2,hg2,hk2⟩:=IC w2 75 (.slice uo bk.length uc) bk.length _ hb2.row hx2.cx.upd.size x (by have:=HL.out;have:=HK2.out;omega)
     obtain⟨o2,c2,rfl⟩:=Ak ho2
     refine It.Aa (i:=7) (by kernel_rfl) rfl rfl (λK hK=>?_)
     refine It.AZ (λc h=>by cases h) ?_
     have HK:=hid hK
     clear hK
     go_simp
     have hb3:=AY hb2.top ((z1z _ w2).alloc (z2z _) (.cells #[ptr x] 56))
     refine HK.out _ _ (.inr (AO hb3 6)) ?_
     clear HK
     (try simp only[Act.put,zx1,zx2,zx3,zx4,zx5,zx6])
     refine It.Aa (i:=8) (by kernel_rfl) rfl rfl (λK hK=>?_)
     refine It.AZ (λc h=>by cases h) ?_
     refine z3z _ (.tmp 15) (.tmp 18) 75 75 rfl _ _ rfl rfl _ _ hrun ?_
     have t4:=(hg2.block _ (z4z.1 hb3).1 (λe=>HB.out.ne _ e.symm rfl)).trans hb3
     have hS:_:=(AO t4 6:_=some (Value.slice uo bk.length uc))
     refine hK _ _ (.inr hS) ?_
     clear hK K hrun
     (try simp only[Act.put,zx1,zx2,zx3,zx4,zx5,zx6])
     refine It.Aa (i:=9) (by kernel_rfl) rfl rfl (λK hK=>?_)
     refine It.AZ (λc h=>by cases h) ?_
     have HK:=hid hK
     clear hK
     go_simp
     refine HK.out _ _ (.inr hS) ?_
     clear HK
     (try simp only[Act.put,zx1,zx2,zx3,zx4,zx5,zx6])
     refine It.Aa (i:=10) (by kernel_rfl) rfl rfl (λK hK=>?_)
     refine It.AZ (λc h=>by cases h) ?_
     have HK:=hid hK
     clear hK
     go_simp
     refine HK.out _ _ (.inr hS) ?_
     clear HK
     (try simp only[Act.put,zx1,zx2,zx3,zx4,zx5,zx6])
     refine It.Aa (i:=11) (by kernel_rfl) rfl rfl (λK hK=>?_)
     refine It.AZ (λc h=>by cases h) ?_
     have HK:=hid hK
     clear hK
     have zz:=Bj t4 6
     go_simp
     have hx3:=hx2.append hU hx.cx.upd.size HB.out hfx ho2 hg2 hk2
     refine HK.out _ _ (.inl rfl) ?_
     clear HK
     (try simp only[Act.put,zx1,zx2,zx3,zx4,zx5,zx6])
     have HF:=hid (show _=1 from(Ac.len hfx).symm)
     replace hx:=hx3
     clear hx3 hx2 hU hfx HB HL hb2 hb3 t4 zz hS ho2 hg2 hk2
     refine It.EU (by kernel_rfl) ?_ _
     go_wp2
     go_roundw
     case rel=>
      have hle:=Dt q9
      have e1:least .st=1:=rfl
      have h2:=HK2.out
      refine⟨_,_,m,hx,HP2.out,by omega,?_⟩
      rw[Fo.Cq,HF.out]
      omega
     case measure=>
      rw[hx.left,HM.out]
      have hle:=Dt q9
      have e1:least .st=1:=rfl
      omega
    all_goals (try clear hP)
    all_goals go_wp2_with (first|(go_at_call 33;(with_reducible refine(Sx.seesE hx h2 _ _).mono ?_);rintro e w9 ⟨he,ht,hu⟩;(unfold Aq fv at he);subst he)|((with_reducible (apply Calls.mono;first|exact Sx.sees1t hx h2 _ g2|exact Sx.want hx h2 _ g2));clear hx;rintro e w2 ⟨rfl,hx⟩))
    all_goals first|exact⟨rfl,rfl,ht,hu⟩|(go_ret;exact hx.res (z0z ..))
 all_goals (try clear hP)
 all_goals first|(guard_target =~ Calls _ _ _ _ _;go_enter func59,ntmps59)|skip
 all_goals go_wp2_with (((with_reducible (apply Calls.mono;first|exact Sx.wantE hx h1 _|exact Sx.wantB hx h1 _ g1));rintro e w9 ⟨he,ht,hu⟩;(unfold Aq fv at he);subst he))
 all_goals first|exact⟨rfl,rfl,ht,hu⟩|(go_ret;exact hx.res (z0z ..))
def DL(N:Nat)(fo:Fo):Prop:=∃m ks,fo=Fo.one m ks/\ks.len<=N
def Made(N:Nat):Nt->Fo->Prop
 | .ex,fo=>DL N fo
 | .exT _,fo=>DL N fo
 | .cj,fo=>DL N fo
 | .cjT _,fo=>DL N fo
 | .ng,fo=>DL N fo
 | .cm,fo=>DL N fo
 | .bn _,fo=>DL N fo
 | .bnT _ _,fo=>DL N fo
 | .un,fo=>DL N fo
 | .po,fo=>DL N fo
 | .poT _,fo=>DL N fo
 | .pr,fo=>DL N fo
 | .nm,fo=>DL N fo
 | .wd,fo=>DL N fo
 | .ls _,fo=>fo.len<=N
 | .lsT _ _,fo=>fo.len<=N
 | _,_=>True
def Pre(N:Nat)(s:Cs):Nt->Prop
 | .exT l=>DL N l
 | .cjT l=>DL N l
 | .bnT _ l=>DL N l
 | .poT l=>DL N l
 | .lsT _ l=>l.len+s.r.length<=N
 | _=>True
theorem DL.len{N:Nat}{fo:Fo}(h:DL N fo):fo.len=1:=by
 obtain⟨m,ks,rfl,_⟩:=h
 rfl
theorem OY{N:Nat}{nd:Nd}{a c:Fo}(h:DL N a)(h2:DL N c)(hN:2<=N):DL N (Fo.one nd (a.app c)):=⟨nd,_,rfl,by rw[Fo.Cq,h.len,h2.len];exact hN⟩
theorem cZ{N:Nat}{nd:Nd}{a:Fo}(h:DL N a)(hN:2<=N):DL N (Fo.one nd a):=⟨nd,_,rfl,by rw[h.len];omega⟩
theorem Lc{N:Nat}{nd:Nd}:DL N (Fo.one nd .nil):=⟨nd,_,rfl,Nat.zero_le _⟩
theorem made:∀ (n:Nat) (nt:Nt) (N:Nat) (s:Cs) (fo:Fo) (s':Cs),s.r.length+2<=N->Pre N s nt->P n nt s=some (.ok (fo,s'))->Made N nt fo
 | 0,nt,N,s,fo,s',hN,hp,h=>(Fa h).elim
 | n+1,nt,N,s,fo,s',hN,hp,h=>by
  have ih:=made n
  have h2:2<=N:=by omega
  have tk:∀ {y:Yd} {s:Cs},look s=.ok y->(behind y s).r.length<s.r.length:=λhy=>Iw hy
  have le:∀ {nt:Nt} {s s':Cs} {fo:Fo},P n nt s=some (.ok (fo,s'))->s'.r.length<=s.r.length:=λh=>Nat.le_trans (Nat.le_add_right _ _) (Dt h)
  cases nt <;> simp only[P] at h <;> (try trivial)
  case ex=>
   rcases Af h with⟨f,_,e⟩|⟨l,s1,h1,h⟩
   ·cases e
   exact ih (.exT l) N s1 fo s' (by have:=le h1;omega) (ih .cj N s l s1 hN trivial h1) h
  case exT l=>
   rcases CQ h with⟨f,_,e⟩|⟨y,hy,h⟩
   ·cases e
   split at h
   ·replace h:=DY hy h
    have:=tk hy
    rcases Af h with⟨f,_,e⟩|⟨r,s1,h1,h⟩
    ·cases e
    have hl:=le h1
    exact ih (.exT (Fo.one (Ap 18 y) (l.app r))) N s1 fo s' (by omega) (OY hp (ih .cj N _ r s1 (by omega) trivial h1) h2) h
   ·cases Ag h
    exact hp
  case cj=>
   rcases Af h with⟨f,_,e⟩|⟨l,s1,h1,h⟩
   ·cases e
   exact ih (.cjT l) N s1 fo s' (by have:=le h1;omega) (ih .ng N s l s1 hN trivial h1) h
  case cjT l=>
   rcases CQ h with⟨f,_,e⟩|⟨y,hy,h⟩
   ·cases e
   split at h
   ·replace h:=DY hy h
    have:=tk hy
    rcases Af h with⟨f,_,e⟩|⟨r,s1,h1,h⟩
    ·cases e
    have hl:=le h1
    exact ih (.cjT (Fo.one (Ap 19 y) (l.app r))) N s1 fo s' (by omega) (OY hp (ih .ng N _ r s1 (by omega) trivial h1) h2) h
   ·cases Ag h
    exact hp
  case ng=>
   rcases CQ h with⟨f,_,e⟩|⟨y,hy,h⟩
   ·cases e
   split at h
   ·replace h:=DY hy h
    have:=tk hy
    rcases Af h with⟨f,_,e⟩|⟨r,s1,h1,h⟩
    ·cases e
    cases Ag h
    exact cZ (ih .ng N _ r s' (by omega) trivial h1) h2
   ·exact ih .cm N s fo s' hN trivial h
  case cm=>
   rcases Af h with⟨f,_,e⟩|⟨l,s1,h1,h⟩
   ·cases e
   have hl:=le h1
   have fl:=ih (.bn 1) N s l s1 hN trivial h1
   rcases CQ h with⟨f,_,e⟩|⟨y,hy,h⟩
   ·cases e
   split at h
   ·replace h:=DY hy h
    have:=tk hy
    rcases Af h with⟨f,_,e⟩|⟨r,s2,h3,h⟩
    ·cases e
    cases Ag h
    exact OY fl (ih (.bn 1) N _ r s' (by omega) trivial h3) h2
   ·cases Ag h
    exact fl
  case bn k=>
   split at h
   ·exact ih .un N s fo s' hN trivial h
   ·rcases Af h with⟨f,_,e⟩|⟨l,s1,h1,h⟩
    ·cases e
    exact ih (.bnT k l) N s1 fo s' (by have:=le h1;omega) (ih (.bn (k+1)) N s l s1 hN trivial h1) h
  case bnT k l=>
   rcases CQ h with⟨f,_,e⟩|⟨y,hy,h⟩
   ·cases e
   split at h
   ·replace h:=DY hy h
    have:=tk hy
    rcases Af h with⟨f,_,e⟩|⟨r,s1,h1,h⟩
    ·cases e
    have hl:=le h1
    exact ih (.bnT k (Fo.one (BD 21 y) (l.app r))) N s1 fo s' (by omega) (OY hp (ih (.bn (k+1)) N _ r s1 (by omega) trivial h1) h2) h
   ·cases Ag h
    exact hp
  case un=>
   rcases CQ h with⟨f,_,e⟩|⟨y,hy,h⟩
   ·cases e
   split at h
   ·replace h:=DY hy h
    have:=tk hy
    rcases Af h with⟨f,_,e⟩|⟨r,s1,h1,h⟩
    ·cases e
    cases Ag h
    exact cZ (ih .un N _ r s' (by omega) trivial h1) h2
   ·exact ih .po N s fo s' hN trivial h
  case po=>
   rcases Af h with⟨f,_,e⟩|⟨l,s1,h1,h⟩
   ·cases e
   exact ih (.poT l) N s1 fo s' (by have:=le h1;omega) (ih .pr N s l s1 hN trivial h1) h
  case poT l=>
   rcases CQ h with⟨f,_,e⟩|⟨y,hy,h⟩
   ·cases e
   split at h
   ·replace h:=DY hy h
    have:=tk hy
    rcases Af h with⟨f,_,e⟩|⟨r,s1,h1,h⟩
    ·cases e
    have hl:=le h1
    rcases Bp h with⟨f,_,e⟩|⟨y2,_,_,e⟩|⟨y2,hy2,_,h⟩
    ·cases e
    ·cases e
    have:=tk hy2
    exact ih (.poT (Fo.one (Ap 24 y) (l.app r))) N _ fo s' (by omega) (OY hp (ih .ex N _ r s1 (by omega) trivial h1) h2) h
   ·cases Ag h
    exact hp
  case pr=>
   rcases CQ h with⟨f,_,e⟩|⟨y,hy,h⟩
   ·cases e
   split at h
   ·replace h:=DY hy h
    cases Ag h
    exact Lc
   split at h
   ·replace h:=DY hy h
    cases Ag h
    exact Lc
   split at h
   ·replace h:=DY hy h
    cases Ag h
    exact Lc
   split at h
   ·exact ih .nm N s fo s' hN trivial h
   split at h
   ·exact ih .wd N s fo s' hN trivial h
   rcases Bp h with⟨f,_,e⟩|⟨y2,_,_,e⟩|⟨y2,hy2,_,h⟩
   ·cases e
   ·cases e
   have:=tk hy2
   rcases Af h with⟨f,_,e⟩|⟨r,s1,h1,h⟩
   ·cases e
   rcases Bp h with⟨f,_,e⟩|⟨y3,_,_,e⟩|⟨y3,hy3,_,h⟩
   ·cases e
   ·cases e
   cases Ag h
   exact ih .ex N _ _ s1 (by omega) trivial h1
  case nm=>
   rcases Iz h with⟨f,_,e⟩|⟨y,_,_,e⟩|⟨y,hy,_,h⟩
   ·cases e
   ·cases e
   have:=tk hy
   rcases CQ h with⟨f,_,e⟩|⟨z,hz,h⟩
   ·cases e
   split at h
   ·rcases Af h with⟨f,_,e⟩|⟨l,s1,h1,h⟩
    ·cases e
    cases Ag h
    exact⟨_,_,rfl,ih (.ls false) N _ l s' (by omega) trivial h1⟩
   ·cases Ag h
    exact Lc
  case wd=>
   rcases CQ h with⟨f,_,e⟩|⟨y,hy,h⟩
   ·cases e
   split at h
   ·replace h:=DY hy h
    cases Ag h
    exact Lc
   split at h
   ·replace h:=DY hy h
    cases Ag h
    exact Lc
   rcases Bp h with⟨f,_,e⟩|⟨y2,_,_,e⟩|⟨y2,hy2,_,h⟩
   ·cases e
   ·cases e
   cases Ag h
   exact Lc
  case ls p=>
   rcases Bp h with⟨f,_,e⟩|⟨y2,_,_,e⟩|⟨y2,hy2,_,h⟩
   ·cases e
   ·cases e
   have:=tk hy2
   exact ih (.lsT p .nil) N _ fo s' (by omega) (by simp only[Pre,Fo.len];omega) h
  case lsT p l=>
   have hp':l.len+s.r.length<=N:=hp
   rcases CQ h with⟨f,_,e⟩|⟨y,hy,h⟩
   ·cases e
   split at h
   ·rcases Bp h with⟨f,_,e⟩|⟨y2,_,_,e⟩|⟨y2,hy2,_,h⟩
    ·cases e
    ·cases e
    cases Ag h
    show fo.len<=N
    omega
   rcases Af h with⟨f,_,e⟩|⟨y3,s1,h1,h⟩
   ·cases e
   have hs1:s1.r.length<=s.r.length:=by
    split at h1
    ·cases Ag h1
     omega
    ·have h1':(Bg Yj).bind (λa=>Pm.pure a) s=some (.ok (y3,s1)):=by
      unfold Pm.bind
      rw[h1]
      rfl
     rcases Bp h1' with⟨f,_,e⟩|⟨y2,_,_,e⟩|⟨y2,hy2,_,h1'⟩
     ·cases e
     ·cases e
     cases Ag h1'
     have:=tk hy2
     omega
   rcases Af h with⟨f,_,e⟩|⟨x,s2,h3,h⟩
   ·cases e
   have hx:x.len=1/\s2.r.length+1<=s1.r.length:=by
    cases p
    ·have a:=Dt h3
     have c:DL N x:=ih .ex N s1 x s2 (by omega) trivial h3
     exact⟨c.len,a⟩
    ·have a:=Dt h3
     refine⟨?_,a⟩
     match n,h3 with
     | 0,h3=>exact(Fa h3).elim
     | k+1,h3=>
      simp only[P,if_true] at h3
      rcases Iz h3 with⟨f,_,e⟩|⟨y,_,_,e⟩|⟨y,hy,_,h3⟩
      ·cases e
      ·cases e
      cases Ag h3
      rfl
   exact ih (.lsT p (l.app x)) N s2 fo s' (by omega) (by show (l.app x).len+s2.r.length<=N;rw[Fo.Cq];omega) h
theorem AAx{α:Type}{k:Yd->Pm α}{s:Cs}{r:Rs α}(h:Bf.bind k s=some r):(∃e,look s=.error e/\r=.error e)\/∃y,look s=.ok y/\k y (behind y s)=some r:=by
 unfold Pm.bind Bf at h
 cases hx:look s with
 | error e=>rw[hx] at h;exact .inl ⟨e,rfl,(Option.some.inj h).symm⟩
 | ok y=>rw[hx] at h;exact .inr ⟨y,rfl,h⟩
theorem Sx.nodeB{W0 W w' W2:World}{cb:Nat}{Ys:List Yd}{v:Value}{s:Cs}{L:List (Nat × Fo)}{M:List (Nat × Yd)}(h:Sx W0 W cb Ys v s L M){bs:List Nat}{ks:Fo}{nd:Nd}(hk:Ac W (λk=>W0.heap.size<=k) bs ks)(hl:bs.length<=maxLen)(hr:W2=W.alloc (.cells (bs.map ptr).toArray 56))(hB:Below W2.heap.size W2 w')(hb:w'.heap[W2.heap.size]? = some (.cells (EL nd (.slice (some ⟨W.heap.size,0,none⟩) bs.length bs.length)) 77 (0,0))):Sx W0 w' cb Ys v s ((W2.heap.size,Fo.one nd ks)::L) M:=by
 have hB1:Below W.heap.size W W2:=by rw[hr];exact(z1z _ W).alloc (z2z _) _
 have h2:=(h.below hB1).below hB
 have hz:W2.heap.size=W.heap.size+1:=by rw[hr];simp
 have hr2:W2.heap[W.heap.size]? = some (.cells (bs.map ptr).toArray 56 (0,0)):=by rw[hr];exact World.alloc_heap_new W _
 have hr3:=AY hr2 hB
 have hm:=h.cx.upd.size
 refine⟨h2.cx,?_,h2.tk⟩
 intro p hp
 rcases List.mem_cons.1 hp with rfl|hp
 ·refine Ac.mk (by omega) hb (Sz hr3 hl) ?_ ?_
  ·intro k e
   have:k=W.heap.size:=(Option.some.inj e).symm
   omega
  ·refine Ac.mono ?_ (((hk.lt).below hB1).below hB)
   intro k e
   refine⟨e.1,by omega,?_⟩
   intro c
   have:W.heap.size=k:=Option.some.inj c
   omega
 ·exact h2.ts p hp
end Go.Proofs.YtjplieobnknnpaaGreatDoor.W.Tr

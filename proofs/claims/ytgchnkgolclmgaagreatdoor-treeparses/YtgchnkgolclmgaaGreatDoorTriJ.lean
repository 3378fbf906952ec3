import Derived.Test.YtgchnkgolclmgaaGreatDoorJG
import Derived.Test.YtgchnkgolclmgaaGreatDoorTrhJ
open List renaming mem_cons_self → aY
open Array renaming getElem?_eq_some_iff → ay
open Nat renaming le_refl → aH
open Go.RowKit.Below renaming refl → aL
open Go.Proofs.Tryz
open List renaming getElem_toArray → aW, getElem_cons_zero → aV, getElem_cons_succ → aU, setIfInBounds_toArray → aT, set_cons_zero → aS, set_cons_succ → aR
set_option maxRecDepth 1000000
set_option maxHeartbeats 8000000
namespace Go.Proofs.YtgchnkgolclmgaaGreatDoor.W.Tr
open Go.ChangeShapes Go.WideShapes Go.RowKit Go.Shelf
set_option linter.unusedVariables false
set_option linter.unusedSimpArgs false
theorem LX(n:Nat)(ce:fZ 148 .ex n)(ca:Nh 149 n):fZ 122 .pl (n+1):=by
 intro W cb Ys v s r hC hP
 have hx:=Sx.start hC
 clear hC
 simp only[P] at hP
 unfold Nh at ca
 rcases aX hP with⟨f,q1,rfl⟩|⟨f1,s1,q1,hP⟩
 rotate_left
 obtain⟨m,ks,rfl,hks⟩:=made n .ex _ s f1 s1 (aH _) trivial q1
 have hlen:ks.len<=1900000:=by have:=hx.all;omega
 replace hP:(dW.bind λz=>if aG z.t=jf/\m.kind=25 then P n (.D6 ⟨7,m.a,m.text,m.int,m.bits⟩ ks) else if aG z.t=jf/\m.kind=24 then P n (.D6 ⟨8,m.a,m.text,m.int,m.bits⟩ ks) else (dw bV).bind λ_=>Pm.pure (Fo.one ⟨17,m.a,⟨#[]⟩,0,0⟩ (Fo.one m ks))) s1=some r:=hP
 have iy:=hid hlen
 clear hks hlen
 rcases bU hP with⟨f,h2,rfl⟩|⟨y2,h2,hP⟩
 rotate_left
 by_cases g2:aG y2.t=jf
 by_cases TV:m.kind=25
 rw[if_pos ⟨g2,TV⟩] at hP
 have e25:(m.kind==25)=true:=by simp[TV]
 clear TV
 have HP:=hid hP
 clear hP
 focus
  go_enter func122,ntmps122
  go_upto_region 6 with(first|(go_at_call 148;(with_reducible refine(Sx.part hx ce q1).mono ?_);clear hx;rintro e w2 ⟨b1,rfl,hx⟩)|(go_at_call 30;(with_reducible refine(Sx.gB hx h2 _ g2).mono ?_);clear hx;rintro e w2 ⟨rfl,hx⟩;(obtain⟨k0,k1,k3,zf⟩:=hx.cells (b:=b1) (nd:=m) (ks:=ks) (by simp));(have z0:=zf 0);clear zf))
 replace hx:=hx.set (b:=b1) (nd:=m) (nd':=⟨7,m.a,m.text,m.int,m.bits⟩) (ks:=ks) (by simp) 0 (.int .i64 7) (λu=>rfl)
 clear k0 k1 k3 z0
 have hT:=HP.out
 rcases r with f|⟨fo,s2⟩
 rotate_left
 rotate_left
 by_cases c24:m.kind=24
 rw[if_neg (λc=>TV c.2)] at hP
 rw[if_pos ⟨g2,c24⟩] at hP
 have e25:(m.kind==25)=false:=by simp[TV]
 have e24:(m.kind==24)=true:=by simp[c24]
 clear c24
 have HP:=hid hP
 clear hP
 focus
  go_enter func122,ntmps122
  go_upto_region 9 with(first|(go_at_call 148;(with_reducible refine(Sx.part hx ce q1).mono ?_);clear hx;rintro e w2 ⟨b1,rfl,hx⟩)|(go_at_call 30;(with_reducible refine(Sx.gB hx h2 _ g2).mono ?_);clear hx;rintro e w2 ⟨rfl,hx⟩;(obtain⟨k0,k1,k3,zf⟩:=hx.cells (b:=b1) (nd:=m) (ks:=ks) (by simp));(have z0:=zf 0);clear zf))
 replace hx:=hx.set (b:=b1) (nd:=m) (nd':=⟨8,m.a,m.text,m.int,m.bits⟩) (ks:=ks) (by simp) 0 (.int .i64 8) (λu=>rfl)
 clear k0 k1 k3 z0
 have hT:=HP.out
 rcases r with f|⟨fo,s2⟩
 rotate_left
 rotate_left
 rw[if_neg (λc=>TV c.2),if_neg (λc=>c24 c.2)] at hP
 have e25:(m.kind==25)=false:=by simp[TV]
 have e24:(m.kind==24)=false:=by simp[c24]
 rcases bK hP with⟨f,h3,rfl⟩|⟨y3,h3,g3,rfl⟩|⟨y3,h3,g3,hP⟩
 rotate_left
 rotate_left
 obtain rfl:=aQ hP
 rotate_left
 rw[if_neg (λc=>g2 c.1),if_neg (λc=>g2 c.1)] at hP
 rcases bK hP with⟨f,h4,rfl⟩|⟨y4,h4,g4,rfl⟩|⟨y4,h4,g4,hP⟩
 rotate_left
 rotate_left
 obtain rfl:=aQ hP
 rotate_left
 all_goals (try clear hP)
 all_goals first|(guard_target =~ Calls _ _ _ _ _;go_enter func122,ntmps122)|skip
 all_goals go_wp2_with (first|((with_reducible (apply Calls.mono;first|exact Sx.dN hx ce q1|exact Sx.kV hx h2 _ _|exact ca _ _ _ _ _ _ _ _ _ _ iy.out hx hT|exact Sx.aN hx h3 _|exact Sx.fG hx h3 _ g3|exact Sx.aN hx h4 _|exact Sx.fG hx h4 _ g4));rintro e w9 ⟨he,ht,hu⟩;(unfold kC fv at he);subst he)|(go_at_call 148;(with_reducible refine(Sx.part hx ce q1).mono ?_);clear hx;rintro e w2 ⟨b1,rfl,hx⟩)|(go_at_call 149;(with_reducible refine(ca _ _ _ _ _ _ _ _ _ _ iy.out hx hT).mono ?_);clear hx;rintro e w2 ⟨rfl,hx⟩)|((with_reducible (apply Calls.mono;first|exact Sx.gB hx h2 _ g2|exact Sx.want hx h3 _ g3|exact Sx.iO hx h2 _ g2|exact Sx.want hx h4 _ g4));clear hx;rintro e w2 ⟨rfl,hx⟩;(obtain⟨k0,k1,k3,zf⟩:=hx.cells (b:=b1) (nd:=m) (ks:=ks) (by simp));(have z0:=zf 0);clear zf))
 all_goals first|exact⟨rfl,rfl,ht,hu⟩|(go_ret;first|exact hx.res (aY ..)|(have hN:=hx.VO (w':=(w2.alloc (.cells #[ptr b1] 54)).alloc (.cells (oI ⟨17,m.a,⟨#[]⟩,0,0⟩ (.slice (some ⟨w2.heap.size,0,none⟩) 1 1)) 70)) (bs:=[b1]) (nd:=⟨17,m.a,⟨#[]⟩,0,0⟩) (hx.ts (b1,Fo.one m ks) (by simp)) (by have:=one_le;simp;omega) rfl ((aL _ _).alloc (aH _) _) (World.alloc_heap_new _ _);rw[World.size_alloc] at hN;exact hN.res (aY ..)))
theorem IW(n:Nat)(cg:∀m,m<n->fZ 31 .gl m)(cf:∀m,m<n->fZ 32 .fu m):fZ 20 (.pg .nil) n:=by
 intro W cb Ys v s r hC hP
 have hx:=Sx.start hC
 clear hC
 have HP:=hid hP
 clear hP
 have tf:=KP
 go_enter func20,ntmps20
 go_wp2_with (go_at_call 28;(with_reducible refine(hx.aA6 1).mono ?_);rintro e w2 ⟨b0,rfl,hx2⟩;(replace hx:=hx2);clear hx2)
 have HX:=hid hx
 clear hx
 go_loopw [6] (λ_ wr=>∃ks s' m,Sx W wr cb Ys v s' [(b0,Fo.one ⟨1,0,⟨#[]⟩,0,0⟩ ks)] []/\P m (.pg ks) s'=some r/\m<=n/\ks.len+s'.r.length<=Ys.length) (λ_ wr=>Ys.length-NK wr cb)
 case atStart=>exact⟨.nil,_,n,HX.out,HP.out,aH _,by have:=HX.out.all.1;simp only[Fo.len];omega⟩
 case round=>
  obtain⟨ks,s',m,hx,hP,hm,hks⟩:=hrel
  clear HP HX
  have HM:=hid hx.left
  have sZ:=hid (And.intro hks hx.all.2)
  clear hks
  match m,hP with
  | 0,hP=>exact(iY hP).elim
  | m+1,hP=>
   simp only[P] at hP
   rcases bU hP with⟨f,h1,rfl⟩|⟨y1,h1,hP⟩
   rotate_left
   by_cases g7:y1.t.kind=7
   rw[if_pos g7] at hP
   have e7:(y1.t.kind==7)=true:=by simp[g7]
   clear g7
   obtain rfl:=aQ hP
   rotate_left
   rw[if_neg g7] at hP
   have e7:(y1.t.kind==7)=false:=by simp[g7]
   clear g7
   by_cases g2:aG y1.t=fU
   rw[if_pos g2] at hP
   have HP:=hid hP
   clear hP
   focus
    go_upto_region 4 with(first|(go_at_call 29;(with_reducible refine(Sx.look hx h1).mono ?_);rintro e w2 ⟨he,hx2⟩;(unfold tv at he);subst he;(replace hx:=hx2);clear hx2)|(go_at_call 30;(with_reducible refine(Sx.gB hx h1 _ g2).mono ?_);clear hx;rintro e w2 ⟨rfl,hx⟩))
    obtain⟨u,bk,hbr⟩:=Br.of (hx.ts (b0,Fo.one ⟨1,0,⟨#[]⟩,0,0⟩ ks) (by simp))
    have hlen:=bg.len hbr.kids
    obtain⟨uo,uc,rfl⟩:=hbr.slice
    replace hx:=hx.drew
    have HB:=hid (hbr.upd hx.cx.lt (It.bL.of_below (aL _ _).drew))
    have HL:=hid hlen
    clear hbr hlen
    refine It.bM (z:=11) (S:=λw'=>w'.cell? ⟨b0,6,none⟩=some (Value.slice uo bk.length uc)) (by kernel_rfl) ?_
    have hS:_:=(aA HB.out.top 6:_=some (Value.slice uo bk.length uc))
    iterate 6 ((refine It.nL 0 ?_ rfl (by kernel_rfl) (λ_ _ _ h=>h) (Or.inl ⟨by rfl,?_⟩) hS ?_);rotate_left;(focus (intro w' hSw;go_simp;(try with_reducible rfl)));(try simp only[Act.put,aW,aV,aU,aT,aS,aR]))
    refine It.aD (i:=6) (by kernel_rfl) rfl rfl (λK hK=>?_)
    refine It.aB (λc h=>by cases h) ?_
    have HK:=hid hK
    clear hK
    go_simp
    replace hP:=HP.out
    rcases aX hP with⟨f,q9,rfl⟩|⟨f9,s9,q9,hP⟩
    ·refine(hx.dN (cg m (by omega)) q9).mono ?_
     rintro e w9 ⟨he,ht,hu⟩
     unfold kC fv at he
     subst he
     exact⟨rfl,rfl,ht,hu⟩
    clear HP
    have qU:=hid hP
    clear hP
    refine(hx.jZ (cg m (by omega)) q9).mono ?_
    rintro e w2 ⟨x,rfl,hx2,hU,hfx⟩
    have hb2:=HB.out.upd hx.cx.lt hU
    refine HK.out _ _ (.inr (aA hb2.top 6)) ?_
    clear HK hS
    (try simp only[Act.put,aW,aV,aU,aT,aS,aR])
    obtain⟨u2,w4,hrun,ho2,hg2,hk2⟩:=fF w2 68 (.slice uo bk.length uc) bk.length _ hb2.row hx2.cx.upd.size x (by have:=HL.out;have:=sZ.out;omega)
    obtain⟨o2,c2,rfl⟩:=aI ho2
    refine It.aD (i:=7) (by kernel_rfl) rfl rfl (λK hK=>?_)
    refine It.aB (λc h=>by cases h) ?_
    have HK:=hid hK
    clear hK
    go_simp
    have hb3:=aF hb2.top ((aL _ w2).alloc (aH _) (.cells #[ptr x] 54))
    refine HK.out _ _ (.inr (aA hb3 6)) ?_
    clear HK
    (try simp only[Act.put,aW,aV,aU,aT,aS,aR])
    refine It.aD (i:=8) (by kernel_rfl) rfl rfl (λK hK=>?_)
    refine It.aB (λc h=>by cases h) ?_
    refine Lib.wp_append_run _ (.tmp 17) (.tmp 20) 68 68 rfl _ _ rfl rfl _ _ hrun ?_
    have t4:=(hg2.block _ (ay.1 hb3).1 (λe=>HB.out.ne _ e.symm rfl)).trans hb3
    have hS:_:=(aA t4 6:_=some (Value.slice uo bk.length uc))
    refine hK _ _ (.inr hS) ?_
    clear hK K hrun
    (try simp only[Act.put,aW,aV,aU,aT,aS,aR])
    refine It.aD (i:=9) (by kernel_rfl) rfl rfl (λK hK=>?_)
    refine It.aB (λc h=>by cases h) ?_
    have HK:=hid hK
    clear hK
    go_simp
    refine HK.out _ _ (.inr hS) ?_
    clear HK
    (try simp only[Act.put,aW,aV,aU,aT,aS,aR])
    refine It.aD (i:=10) (by kernel_rfl) rfl rfl (λK hK=>?_)
    refine It.aB (λc h=>by cases h) ?_
    have HK:=hid hK
    clear hK
    go_simp
    refine HK.out _ _ (.inr hS) ?_
    clear HK
    (try simp only[Act.put,aW,aV,aU,aT,aS,aR])
    refine It.aD (i:=11) (by kernel_rfl) rfl rfl (λK hK=>?_)
    refine It.aB (λc h=>by cases h) ?_
    have HK:=hid hK
    clear hK
    have zz:=aC t4 6
    go_simp
    have hx3:=hx2.append hU hx.cx.upd.size HB.out hfx ho2 hg2 hk2
    refine HK.out _ _ (.inl rfl) ?_
    clear HK
    (try simp only[Act.put,aW,aV,aU,aT,aS,aR])
    have HF:=hid (show _=1 from(bg.len hfx).symm)
    replace hx:=hx3
    clear hx3 hx2 hU hfx HB HL hb2 hb3 t4 zz hS ho2 hg2 hk2
    refine It.bQ (by kernel_rfl) ?_ _
    go_wp2
    go_roundw
    case rel=>
     have hle:=lT q9
     have e1:least .gl=1:=rfl
     have h2:=sZ.out
     refine⟨_,_,m,hx,qU.out,by omega,?_⟩
     rw[Fo.gq,HF.out]
     omega
    case measure=>
     rw[hx.left,HM.out]
     have hle:=lT q9
     have e1:least .gl=1:=rfl
     omega
   rw[if_neg g2] at hP
   have HP:=hid hP
   clear hP
   focus
    go_upto_region 5 with(first|(go_at_call 29;(with_reducible refine(Sx.look hx h1).mono ?_);rintro e w2 ⟨he,hx2⟩;(unfold tv at he);subst he;(replace hx:=hx2);clear hx2)|(go_at_call 30;(with_reducible refine(Sx.iO hx h1 _ g2).mono ?_);clear hx;rintro e w2 ⟨rfl,hx⟩))
    obtain⟨u,bk,hbr⟩:=Br.of (hx.ts (b0,Fo.one ⟨1,0,⟨#[]⟩,0,0⟩ ks) (by simp))
    have hlen:=bg.len hbr.kids
    obtain⟨uo,uc,rfl⟩:=hbr.slice
    replace hx:=hx.drew
    have HB:=hid (hbr.upd hx.cx.lt (It.bL.of_below (aL _ _).drew))
    have HL:=hid hlen
    clear hbr hlen
    refine It.bM (z:=11) (S:=λw'=>w'.cell? ⟨b0,6,none⟩=some (Value.slice uo bk.length uc)) (by kernel_rfl) ?_
    have hS:_:=(aA HB.out.top 6:_=some (Value.slice uo bk.length uc))
    iterate 6 ((refine It.nL 0 ?_ rfl (by kernel_rfl) (λ_ _ _ h=>h) (Or.inl ⟨by rfl,?_⟩) hS ?_);rotate_left;(focus (intro w' hSw;go_simp;(try with_reducible rfl)));(try simp only[Act.put,aW,aV,aU,aT,aS,aR]))
    refine It.aD (i:=6) (by kernel_rfl) rfl rfl (λK hK=>?_)
    refine It.aB (λc h=>by cases h) ?_
    have HK:=hid hK
    clear hK
    go_simp
    replace hP:=HP.out
    rcases aX hP with⟨f,q9,rfl⟩|⟨f9,s9,q9,hP⟩
    ·refine(hx.dN (cf m (by omega)) q9).mono ?_
     rintro e w9 ⟨he,ht,hu⟩
     unfold kC fv at he
     subst he
     exact⟨rfl,rfl,ht,hu⟩
    clear HP
    have qU:=hid hP
    clear hP
    refine(hx.jZ (cf m (by omega)) q9).mono ?_
    rintro e w2 ⟨x,rfl,hx2,hU,hfx⟩
    have hb2:=HB.out.upd hx.cx.lt hU
    refine HK.out _ _ (.inr (aA hb2.top 6)) ?_
    clear HK hS
    (try simp only[Act.put,aW,aV,aU,aT,aS,aR])
    obtain⟨u2,w4,hrun,ho2,hg2,hk2⟩:=fF w2 68 (.slice uo bk.length uc) bk.length _ hb2.row hx2.cx.upd.size x (by have:=HL.out;have:=sZ.out;omega)
    obtain⟨o2,c2,rfl⟩:=aI ho2
    refine It.aD (i:=7) (by kernel_rfl) rfl rfl (λK hK=>?_)
    refine It.aB (λc h=>by cases h) ?_
    have HK:=hid hK
    clear hK
    go_simp
    have hb3:=aF hb2.top ((aL _ w2).alloc (aH _) (.cells #[ptr x] 54))
    refine HK.out _ _ (.inr (aA hb3 6)) ?_
    clear HK
    (try simp only[Act.put,aW,aV,aU,aT,aS,aR])
    refine It.aD (i:=8) (by kernel_rfl) rfl rfl (λK hK=>?_)
    refine It.aB (λc h=>by cases h) ?_
    refine Lib.wp_append_run _ (.tmp 28) (.tmp 31) 68 68 rfl _ _ rfl rfl _ _ hrun ?_
    have t4:=(hg2.block _ (ay.1 hb3).1 (λe=>HB.out.ne _ e.symm rfl)).trans hb3
    have hS:_:=(aA t4 6:_=some (Value.slice uo bk.length uc))
    refine hK _ _ (.inr hS) ?_
    clear hK K hrun
    (try simp only[Act.put,aW,aV,aU,aT,aS,aR])
    refine It.aD (i:=9) (by kernel_rfl) rfl rfl (λK hK=>?_)
    refine It.aB (λc h=>by cases h) ?_
    have HK:=hid hK
    clear hK
    go_simp
    refine HK.out _ _ (.inr hS) ?_
    clear HK
    (try simp only[Act.put,aW,aV,aU,aT,aS,aR])
    refine It.aD (i:=10) (by kernel_rfl) rfl rfl (λK hK=>?_)
    refine It.aB (λc h=>by cases h) ?_
    have HK:=hid hK
    clear hK
    go_simp
    refine HK.out _ _ (.inr hS) ?_
    clear HK
    (try simp only[Act.put,aW,aV,aU,aT,aS,aR])
    refine It.aD (i:=11) (by kernel_rfl) rfl rfl (λK hK=>?_)
    refine It.aB (λc h=>by cases h) ?_
    have HK:=hid hK
    clear hK
    have zz:=aC t4 6
    go_simp
    have hx3:=hx2.append hU hx.cx.upd.size HB.out hfx ho2 hg2 hk2
    refine HK.out _ _ (.inl rfl) ?_
    clear HK
    (try simp only[Act.put,aW,aV,aU,aT,aS,aR])
    have HF:=hid (show _=1 from(bg.len hfx).symm)
    replace hx:=hx3
    clear hx3 hx2 hU hfx HB HL hb2 hb3 t4 zz hS ho2 hg2 hk2
    refine It.bQ (by kernel_rfl) ?_ _
    go_wp2
    go_roundw
    case rel=>
     have hle:=lT q9
     have e1:least .fu=1:=rfl
     have h2:=sZ.out
     refine⟨_,_,m,hx,qU.out,by omega,?_⟩
     rw[Fo.gq,HF.out]
     omega
    case measure=>
     rw[hx.left,HM.out]
     have hle:=lT q9
     have e1:least .fu=1:=rfl
     omega
   all_goals (try clear hP)
   all_goals go_wp2_with (first|(go_at_call 29;(with_reducible refine(Sx.zB hx h1).mono ?_);rintro e w9 ⟨he,ht,hu⟩;(unfold kC fv at he);subst he)|(go_at_call 29;(with_reducible refine(Sx.look hx h1).mono ?_);rintro e w2 ⟨he,hx2⟩;(unfold tv at he);subst he;(replace hx:=hx2);clear hx2))
   all_goals first|exact⟨rfl,rfl,ht,hu⟩|(go_ret;exact hx.res (aY ..))
end Go.Proofs.YtgchnkgolclmgaaGreatDoor.W.Tr

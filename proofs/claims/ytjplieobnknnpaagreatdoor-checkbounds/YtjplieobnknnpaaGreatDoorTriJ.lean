import Derived.Test.YtjplieobnknnpaaGreatDoorJG
import Derived.Test.YtjplieobnknnpaaGreatDoorTrhJ
open List renaming mem_cons_self → z2z
open Array renaming getElem?_eq_some_iff → z3z
open Nat renaming le_refl → z0z
open Go.RowKit.Below renaming refl → z1z
open Go.Proofs.Tryz
open List renaming getElem_toArray → zx1, getElem_cons_zero → zx2, getElem_cons_succ → zx3, setIfInBounds_toArray → zx4, set_cons_zero → zx5, set_cons_succ → zx6
set_option maxRecDepth 1000000
set_option maxHeartbeats 8000000
namespace Go.Proofs.YtjplieobnknnpaaGreatDoor.W.Tr
open Go.ChangeShapes Go.WideShapes Go.RowKit Go.Shelf
set_option linter.unusedVariables false
set_option linter.unusedSimpArgs false
theorem xP(n:Nat)(ce:AX 170 .ex n)(ca:OV 171 n):AX 143 .pl (n+1):=by
 intro W cb Ys v s r hC hP
 have hx:=Sx.start hC
 clear hC
 simp only[P] at hP
 unfold OV at ca
 rcases Af hP with⟨f,q1,rfl⟩|⟨f1,s1,q1,hP⟩
 rotate_left
 obtain⟨m,ks,rfl,hks⟩:=made n .ex _ s f1 s1 (z0z _) trivial q1
 have hlen:ks.len<=1900000:=by have:=hx.all;omega
 replace hP:(BJ.bind λz=>if AP z.t=Kz/\m.kind=25 then P n (.asg ⟨7,m.a,m.text,m.int,m.bits⟩ ks) else if AP z.t=Kz/\m.kind=24 then P n (.asg ⟨8,m.a,m.text,m.int,m.bits⟩ ks) else (Bg Gx).bind λ_=>Pm.pure (Fo.one ⟨17,m.a,⟨#[]⟩,0,0⟩ (Fo.one m ks))) s1=some r:=hP
 have HLN:=hid hlen
 clear hks hlen
 rcases CQ hP with⟨f,h2,rfl⟩|⟨y2,h2,hP⟩
 rotate_left
 by_cases g2:AP y2.t=Kz
 by_cases c25:m.kind=25
 rw[if_pos ⟨g2,c25⟩] at hP
 have e25:(m.kind==25)=true:=by simp[c25]
 clear c25
 have HP:=hid hP
 clear hP
 focus
  go_enter func143,ntmps143
  go_upto_region 6 with(first|(go_at_call 170;(with_reducible refine(Sx.part hx ce q1).mono ?_);clear hx;rintro e w2 ⟨b1,rfl,hx⟩)|(go_at_call 33;(with_reducible refine(Sx.sees1t hx h2 _ g2).mono ?_);clear hx;rintro e w2 ⟨rfl,hx⟩;(obtain⟨k0,k1,k3,zf⟩:=hx.cells (b:=b1) (nd:=m) (ks:=ks) (by simp));(have z0:=zf 0);clear zf))
 replace hx:=hx.set (b:=b1) (nd:=m) (nd':=⟨7,m.a,m.text,m.int,m.bits⟩) (ks:=ks) (by simp) 0 (.int .i64 7) (λu=>rfl)
 clear k0 k1 k3 z0
 have hT:=HP.out
 rcases r with f|⟨fo,s2⟩
 rotate_left
 rotate_left
 by_cases c24:m.kind=24
 rw[if_neg (λc=>c25 c.2)] at hP
 rw[if_pos ⟨g2,c24⟩] at hP
 have e25:(m.kind==25)=false:=by simp[c25]
 have e24:(m.kind==24)=true:=by simp[c24]
 clear c24
 have HP:=hid hP
 clear hP
 focus
  go_enter func143,ntmps143
  go_upto_region 9 with(first|(go_at_call 170;(with_reducible refine(Sx.part hx ce q1).mono ?_);clear hx;rintro e w2 ⟨b1,rfl,hx⟩)|(go_at_call 33;(with_reducible refine(Sx.sees1t hx h2 _ g2).mono ?_);clear hx;rintro e w2 ⟨rfl,hx⟩;(obtain⟨k0,k1,k3,zf⟩:=hx.cells (b:=b1) (nd:=m) (ks:=ks) (by simp));(have z0:=zf 0);clear zf))
 replace hx:=hx.set (b:=b1) (nd:=m) (nd':=⟨8,m.a,m.text,m.int,m.bits⟩) (ks:=ks) (by simp) 0 (.int .i64 8) (λu=>rfl)
 clear k0 k1 k3 z0
 have hT:=HP.out
 rcases r with f|⟨fo,s2⟩
 rotate_left
 rotate_left
 rw[if_neg (λc=>c25 c.2),if_neg (λc=>c24 c.2)] at hP
 have e25:(m.kind==25)=false:=by simp[c25]
 have e24:(m.kind==24)=false:=by simp[c24]
 rcases Bp hP with⟨f,h3,rfl⟩|⟨y3,h3,g3,rfl⟩|⟨y3,h3,g3,hP⟩
 rotate_left
 rotate_left
 obtain rfl:=Ag hP
 rotate_left
 rw[if_neg (λc=>g2 c.1),if_neg (λc=>g2 c.1)] at hP
 rcases Bp hP with⟨f,h4,rfl⟩|⟨y4,h4,g4,rfl⟩|⟨y4,h4,g4,hP⟩
 rotate_left
 rotate_left
 obtain rfl:=Ag hP
 rotate_left
 all_goals (try clear hP)
 all_goals first|(guard_target =~ Calls _ _ _ _ _;go_enter func143,ntmps143)|skip
 all_goals go_wp2_with (first|((with_reducible (apply Calls.mono;first|exact Sx.partE hx ce q1|exact Sx.seesE hx h2 _ _|exact ca _ _ _ _ _ _ _ _ _ _ HLN.out hx hT|exact Sx.wantE hx h3 _|exact Sx.wantB hx h3 _ g3|exact Sx.wantE hx h4 _|exact Sx.wantB hx h4 _ g4));rintro e w9 ⟨he,ht,hu⟩;(unfold Aq fv at he);subst he)|(go_at_call 170;(with_reducible refine(Sx.part hx ce q1).mono ?_);clear hx;rintro e w2 ⟨b1,rfl,hx⟩)|(go_at_call 171;(with_reducible refine(ca _ _ _ _ _ _ _ _ _ _ HLN.out hx hT).mono ?_);clear hx;rintro e w2 ⟨rfl,hx⟩)|((with_reducible (apply Calls.mono;first|exact Sx.sees1t hx h2 _ g2|exact Sx.want hx h3 _ g3|exact Sx.sees1f hx h2 _ g2|exact Sx.want hx h4 _ g4));clear hx;rintro e w2 ⟨rfl,hx⟩;(obtain⟨k0,k1,k3,zf⟩:=hx.cells (b:=b1) (nd:=m) (ks:=ks) (by simp));(have z0:=zf 0);clear zf))
 all_goals first|exact⟨rfl,rfl,ht,hu⟩|(go_ret;first|exact hx.res (z2z ..)|(have hN:=hx.nodeB (w':=(w2.alloc (.cells #[ptr b1] 56)).alloc (.cells (EL ⟨17,m.a,⟨#[]⟩,0,0⟩ (.slice (some ⟨w2.heap.size,0,none⟩) 1 1)) 77)) (bs:=[b1]) (nd:=⟨17,m.a,⟨#[]⟩,0,0⟩) (hx.ts (b1,Fo.one m ks) (by simp)) (by have:=one_le;simp;omega) rfl ((z1z _ _).alloc (z0z _) _) (World.alloc_heap_new _ _);rw[World.size_alloc] at hN;exact hN.res (z2z ..)))
theorem mM(n:Nat)(cg:∀m,m<n->AX 34 .gl m)(cf:∀m,m<n->AX 35 .fu m):AX 21 (.pg .nil) n:=by
 intro W cb Ys v s r hC hP
 have hx:=Sx.start hC
 clear hC
 have HP:=hid hP
 clear hP
 have tf:=Zr
 go_enter func21,ntmps21
 go_wp2_with (go_at_call 31;(with_reducible refine(hx.at0Z 1).mono ?_);rintro e w2 ⟨b0,rfl,hx2⟩;(replace hx:=hx2);clear hx2)
 have HX:=hid hx
 clear hx
 go_loopw [6] (λ_ wr=>∃ks s' m,Sx W wr cb Ys v s' [(b0,Fo.one ⟨1,0,⟨#[]⟩,0,0⟩ ks)] []/\P m (.pg ks) s'=some r/\m<=n/\ks.len+s'.r.length<=Ys.length) (λ_ wr=>Ys.length-I8 wr cb)
 case atStart=>exact⟨.nil,_,n,HX.out,HP.out,z0z _,by have:=HX.out.all.1;simp only[Fo.len];omega⟩
 case round=>
  obtain⟨ks,s',m,hx,hP,hm,hks⟩:=hrel
  clear HP HX
  have HM:=hid hx.left
  have HK2:=hid (And.intro hks hx.all.2)
  clear hks
  match m,hP with
  | 0,hP=>exact(Fa hP).elim
  | m+1,hP=>
   simp only[P] at hP
   rcases CQ hP with⟨f,h1,rfl⟩|⟨y1,h1,hP⟩
   rotate_left
   by_cases g7:y1.t.kind=7
   rw[if_pos g7] at hP
   have e7:(y1.t.kind==7)=true:=by simp[g7]
   clear g7
   obtain rfl:=Ag hP
   rotate_left
   rw[if_neg g7] at hP
   have e7:(y1.t.kind==7)=false:=by simp[g7]
   clear g7
   by_cases g2:AP y1.t=Lh
   rw[if_pos g2] at hP
   have HP:=hid hP
   clear hP
   focus
    go_upto_region 4 with(first|(go_at_call 32;(with_reducible refine(Sx.look hx h1).mono ?_);rintro e w2 ⟨he,hx2⟩;(unfold tv at he);subst he;(replace hx:=hx2);clear hx2)|(go_at_call 33;(with_reducible refine(Sx.sees1t hx h1 _ g2).mono ?_);clear hx;rintro e w2 ⟨rfl,hx⟩))
    obtain⟨u,bk,hbr⟩:=Br.of (hx.ts (b0,Fo.one ⟨1,0,⟨#[]⟩,0,0⟩ ks) (by simp))
    have hlen:=Ac.len hbr.kids
    obtain⟨uo,uc,rfl⟩:=hbr.slice
    replace hx:=hx.drew
    have HB:=hid (hbr.upd hx.cx.lt (It.AL.of_below (z1z _ _).drew))
    have HL:=hid hlen
    clear hbr hlen
    refine It.Eu (z:=11) (S:=λw'=>w'.cell? ⟨b0,6,none⟩=some (Value.slice uo bk.length uc)) (by kernel_rfl) ?_
    have hS:_:=(AO HB.out.top 6:_=some (Value.slice uo bk.length uc))
    iterate 6 ((refine It.nL 0 ?_ rfl (by kernel_rfl) (λ_ _ _ h=>h) (Or.inl ⟨by rfl,?_⟩) hS ?_);rotate_left;(focus (intro w' hSw;go_simp;(try with_reducible rfl)));(try simp only[Act.put,zx1,zx2,zx3,zx4,zx5,zx6]))
    refine It.Aa (i:=6) (by kernel_rfl) rfl rfl (λK hK=>?_)
    refine It.AZ (λc h=>by cases h) ?_
    have HK:=hid hK
    clear hK
    go_simp
    replace hP:=HP.out
    rcases Af hP with⟨f,q9,rfl⟩|⟨f9,s9,q9,hP⟩
    ·refine(hx.partE (cg m (by omega)) q9).mono ?_
     rintro e w9 ⟨he,ht,hu⟩
     unfold Aq fv at he
     subst he
     exact⟨rfl,rfl,ht,hu⟩
    clear HP
    have HP2:=hid hP
    clear hP
    refine(hx.partN (cg m (by omega)) q9).mono ?_
    rintro e w2 ⟨x,rfl,hx2,hU,hfx⟩
    have hb2:=HB.out.upd hx.cx.lt hU
    refine HK.out _ _ (.inr (AO hb2.top 6)) ?_
    clear HK hS
    (try simp only[Act.put,zx1,zx2,zx3,zx4,zx5,zx6])
    obtain⟨u2,w4,hrun,ho2,hg2,hk2⟩:=IC w2 75 (.slice uo bk.length uc) bk.length _ hb2.row hx2.cx.upd.size x (by have:=HL.out;have:=HK2.out;omega)
    obtain⟨o2,c2,rfl⟩:=Ak ho2
    refine It.Aa (i:=7) (by kernel_rfl) rfl rfl (λK hK=>?_)
    refine It.AZ (λc h=>by cases h) ?_
    have HK:=hid hK
    clear hK
    go_simp
    have hb3:=AY hb2.top ((z1z _ w2).alloc (z0z _) (.cells #[ptr x] 56))
    refine HK.out _ _ (.inr (AO hb3 6)) ?_
    clear HK
    (try simp only[Act.put,zx1,zx2,zx3,zx4,zx5,zx6])
    refine It.Aa (i:=8) (by kernel_rfl) rfl rfl (λK hK=>?_)
    refine It.AZ (λc h=>by cases h) ?_
    refine Lib.wp_append_run _ (.tmp 17) (.tmp 20) 75 75 rfl _ _ rfl rfl _ _ hrun ?_
    have t4:=(hg2.block _ (z3z.1 hb3).1 (λe=>HB.out.ne _ e.symm rfl)).trans hb3
    have hS:_:=(AO t4 6:_=some (Value.slice uo bk.length uc))
    refine hK _ _ (.inr hS) ?_
    clear hK K hrun
    (try simp only[Act.put,zx1,zx2,zx3,zx4,zx5,zx6])
    refine It.Aa (i:=9) (by kernel_rfl) rfl rfl (λK hK=>?_)
    refine It.AZ (λc h=>by cases h) ?_
    have HK:=hid hK
    clear hK
    go_simp
    refine HK.out _ _ (.inr hS) ?_
    clear HK
    (try simp only[Act.put,zx1,zx2,zx3,zx4,zx5,zx6])
    refine It.Aa (i:=10) (by kernel_rfl) rfl rfl (λK hK=>?_)
    refine It.AZ (λc h=>by cases h) ?_
    have HK:=hid hK
    clear hK
    go_simp
    refine HK.out _ _ (.inr hS) ?_
    clear HK
    (try simp only[Act.put,zx1,zx2,zx3,zx4,zx5,zx6])
    refine It.Aa (i:=11) (by kernel_rfl) rfl rfl (λK hK=>?_)
    refine It.AZ (λc h=>by cases h) ?_
    have HK:=hid hK
    clear hK
    have zz:=Bj t4 6
    go_simp
    have hx3:=hx2.append hU hx.cx.upd.size HB.out hfx ho2 hg2 hk2
    refine HK.out _ _ (.inl rfl) ?_
    clear HK
    (try simp only[Act.put,zx1,zx2,zx3,zx4,zx5,zx6])
    have HF:=hid (show _=1 from(Ac.len hfx).symm)
    replace hx:=hx3
    clear hx3 hx2 hU hfx HB HL hb2 hb3 t4 zz hS ho2 hg2 hk2
    refine It.EU (by kernel_rfl) ?_ _
    go_wp2
    go_roundw
    case rel=>
     have hle:=Dt q9
     have e1:least .gl=1:=rfl
     have h2:=HK2.out
     refine⟨_,_,m,hx,HP2.out,by omega,?_⟩
     rw[Fo.Cq,HF.out]
     omega
    case measure=>
     rw[hx.left,HM.out]
     have hle:=Dt q9
     have e1:least .gl=1:=rfl
     omega
   rw[if_neg g2] at hP
   have HP:=hid hP
   clear hP
   focus
    go_upto_region 5 with(first|(go_at_call 32;(with_reducible refine(Sx.look hx h1).mono ?_);rintro e w2 ⟨he,hx2⟩;(unfold tv at he);subst he;(replace hx:=hx2);clear hx2)|(go_at_call 33;(with_reducible refine(Sx.sees1f hx h1 _ g2).mono ?_);clear hx;rintro e w2 ⟨rfl,hx⟩))
    obtain⟨u,bk,hbr⟩:=Br.of (hx.ts (b0,Fo.one ⟨1,0,⟨#[]⟩,0,0⟩ ks) (by simp))
    have hlen:=Ac.len hbr.kids
    obtain⟨uo,uc,rfl⟩:=hbr.slice
    replace hx:=hx.drew
    have HB:=hid (hbr.upd hx.cx.lt (It.AL.of_below (z1z _ _).drew))
    have HL:=hid hlen
    clear hbr hlen
    refine It.Eu (z:=11) (S:=λw'=>w'.cell? ⟨b0,6,none⟩=some (Value.slice uo bk.length uc)) (by kernel_rfl) ?_
    have hS:_:=(AO HB.out.top 6:_=some (Value.slice uo bk.length uc))
    iterate 6 ((refine It.nL 0 ?_ rfl (by kernel_rfl) (λ_ _ _ h=>h) (Or.inl ⟨by rfl,?_⟩) hS ?_);rotate_left;(focus (intro w' hSw;go_simp;(try with_reducible rfl)));(try simp only[Act.put,zx1,zx2,zx3,zx4,zx5,zx6]))
    refine It.Aa (i:=6) (by kernel_rfl) rfl rfl (λK hK=>?_)
    refine It.AZ (λc h=>by cases h) ?_
    have HK:=hid hK
    clear hK
    go_simp
    replace hP:=HP.out
    rcases Af hP with⟨f,q9,rfl⟩|⟨f9,s9,q9,hP⟩
    ·refine(hx.partE (cf m (by omega)) q9).mono ?_
     rintro e w9 ⟨he,ht,hu⟩
     unfold Aq fv at he
     subst he
     exact⟨rfl,rfl,ht,hu⟩
    clear HP
    have HP2:=hid hP
    clear hP
    refine(hx.partN (cf m (by omega)) q9).mono ?_
    rintro e w2 ⟨x,rfl,hx2,hU,hfx⟩
    have hb2:=HB.out.upd hx.cx.lt hU
    refine HK.out _ _ (.inr (AO hb2.top 6)) ?_
    clear HK hS
    (try simp only[Act.put,zx1,zx2,zx3,zx4,zx5,zx6])
    obtain⟨u2,w4,hrun,ho2,hg2,hk2⟩:=IC w2 75 (.slice uo bk.length uc) bk.length _ hb2.row hx2.cx.upd.size x (by have:=HL.out;have:=HK2.out;omega)
    obtain⟨o2,c2,rfl⟩:=Ak ho2
    refine It.Aa (i:=7) (by kernel_rfl) rfl rfl (λK hK=>?_)
    refine It.AZ (λc h=>by cases h) ?_
    have HK:=hid hK
    clear hK
    go_simp
    have hb3:=AY hb2.top ((z1z _ w2).alloc (z0z _) (.cells #[ptr x] 56))
    refine HK.out _ _ (.inr (AO hb3 6)) ?_
    clear HK
    (try simp only[Act.put,zx1,zx2,zx3,zx4,zx5,zx6])
    refine It.Aa (i:=8) (by kernel_rfl) rfl rfl (λK hK=>?_)
    refine It.AZ (λc h=>by cases h) ?_
    refine Lib.wp_append_run _ (.tmp 28) (.tmp 31) 75 75 rfl _ _ rfl rfl _ _ hrun ?_
    have t4:=(hg2.block _ (z3z.1 hb3).1 (λe=>HB.out.ne _ e.symm rfl)).trans hb3
    have hS:_:=(AO t4 6:_=some (Value.slice uo bk.length uc))
    refine hK _ _ (.inr hS) ?_
    clear hK K hrun
    (try simp only[Act.put,zx1,zx2,zx3,zx4,zx5,zx6])
    refine It.Aa (i:=9) (by kernel_rfl) rfl rfl (λK hK=>?_)
    refine It.AZ (λc h=>by cases h) ?_
    have HK:=hid hK
    clear hK
    go_simp
    refine HK.out _ _ (.inr hS) ?_
    clear HK
    (try simp only[Act.put,zx1,zx2,zx3,zx4,zx5,zx6])
    refine It.Aa (i:=10) (by kernel_rfl) rfl rfl (λK hK=>?_)
    refine It.AZ (λc h=>by cases h) ?_
    have HK:=hid hK
    clear hK
    go_simp
    refine HK.out _ _ (.inr hS) ?_
    clear HK
    (try simp only[Act.put,zx1,zx2,zx3,zx4,zx5,zx6])
    refine It.Aa (i:=11) (by kernel_rfl) rfl rfl (λK hK=>?_)
    refine It.AZ (λc h=>by cases h) ?_
    have HK:=hid hK
    clear hK
    have zz:=Bj t4 6
    go_simp
    have hx3:=hx2.append hU hx.cx.upd.size HB.out hfx ho2 hg2 hk2
    refine HK.out _ _ (.inl rfl) ?_
    clear HK
    (try simp only[Act.put,zx1,zx2,zx3,zx4,zx5,zx6])
    have HF:=hid (show _=1 from(Ac.len hfx).symm)
    replace hx:=hx3
    clear hx3 hx2 hU hfx HB HL hb2 hb3 t4 zz hS ho2 hg2 hk2
    refine It.EU (by kernel_rfl) ?_ _
    go_wp2
    go_roundw
    case rel=>
     have hle:=Dt q9
     have e1:least .fu=1:=rfl
     have h2:=HK2.out
     refine⟨_,_,m,hx,HP2.out,by omega,?_⟩
     rw[Fo.Cq,HF.out]
     omega
    case measure=>
     rw[hx.left,HM.out]
     have hle:=Dt q9
     have e1:least .fu=1:=rfl
     omega
   all_goals (try clear hP)
   all_goals go_wp2_with (first|(go_at_call 32;(with_reducible refine(Sx.lookE hx h1).mono ?_);rintro e w9 ⟨he,ht,hu⟩;(unfold Aq fv at he);subst he)|(go_at_call 32;(with_reducible refine(Sx.look hx h1).mono ?_);rintro e w2 ⟨he,hx2⟩;(unfold tv at he);subst he;(replace hx:=hx2);clear hx2))
   all_goals first|exact⟨rfl,rfl,ht,hu⟩|(go_ret;exact hx.res (z2z ..))
end Go.Proofs.YtjplieobnknnpaaGreatDoor.W.Tr

import Derived.Test.YtjplieobnknnpaaGreatDoorJM
open List renaming mem_cons_self → z0z
open Nat renaming le_refl → z1z
open Go.Proofs.Tryz
set_option maxRecDepth 1000000
set_option maxHeartbeats 8000000
namespace Go.Proofs.YtjplieobnknnpaaGreatDoor.W.Tr
open Go.ChangeShapes Go.WideShapes Go.RowKit Go.Shelf
set_option linter.unusedVariables false
set_option linter.unusedSimpArgs false
theorem nW(n:Nat)(cn:AX 228 .ng n)(cc:AX 258 .cm n):AX 228 .ng (n+1):=by
 intro W cb Ys v s r hC hP
 have hx:=Sx.start hC
 clear hC
 simp only[P] at hP
 rcases CQ hP with⟨f,h1,rfl⟩|⟨y1,h1,hP⟩
 rotate_left
 by_cases g1:AP y1.t=Zm
 rw[if_pos g1] at hP
 replace hP:=DY h1 hP
 rcases Af hP with⟨f,q2,rfl⟩|⟨f2,s2,q2,hP⟩
 rotate_left
 obtain rfl:=Ag hP
 rotate_left
 rw[if_neg g1] at hP
 have hT:=hP
 rcases r with f|⟨fo,s1⟩
 rotate_left
 rotate_left
 all_goals (try clear hP)
 all_goals first|(guard_target =~ Calls _ _ _ _ _;go_enter func228,ntmps228)|skip
 all_goals go_wp2_with (first|((with_reducible (apply Calls.mono;first|exact Sx.seesE hx h1 _ _|exact Sx.partE hx cn q2|exact Sx.partE hx cc hT));rintro e w9 ⟨he,ht,hu⟩;(unfold Aq fv at he);subst he)|((with_reducible (apply Calls.mono;first|exact Sx.sees1t hx h1 _ g1|exact Sx.take hx h1|exact Sx.sees1f hx h1 _ g1));clear hx;rintro e w2 ⟨rfl,hx⟩)|(go_at_call 228;(with_reducible refine(Sx.part hx cn q2).mono ?_);clear hx;rintro e w2 ⟨b2,rfl,hx⟩)|((with_reducible (apply Calls.mono;first|exact Sx.at1 (b1:=b2) (f1:=f2) hx 20 y1 (by simp)|exact Sx.part hx cc hT));clear hx;rintro e w2 ⟨b0,rfl,hx⟩))
 all_goals first|exact⟨rfl,rfl,ht,hu⟩|(go_ret;exact hx.res (z0z ..))
theorem kH(n:Nat)(cn:AX 341 .un n)(cc:AX 365 .po n):AX 341 .un (n+1):=by
 intro W cb Ys v s r hC hP
 have hx:=Sx.start hC
 clear hC
 simp only[P] at hP
 rcases CQ hP with⟨f,h1,rfl⟩|⟨y1,h1,hP⟩
 rotate_left
 by_cases g1:AP y1.t=VD\/AP y1.t=SX
 rw[if_pos g1] at hP
 replace hP:=DY h1 hP
 rcases Af hP with⟨f,q2,rfl⟩|⟨f2,s2,q2,hP⟩
 rotate_left
 obtain rfl:=Ag hP
 rotate_left
 rw[if_neg g1] at hP
 have hT:=hP
 rcases r with f|⟨fo,s1⟩
 rotate_left
 rotate_left
 all_goals (try clear hP)
 all_goals first|(guard_target =~ Calls _ _ _ _ _;go_enter func341,ntmps341)|skip
 all_goals go_wp2_with (first|((with_reducible (apply Calls.mono;first|exact Sx.seesE hx h1 _ _|exact Sx.partE hx cn q2|exact Sx.partE hx cc hT));rintro e w9 ⟨he,ht,hu⟩;(unfold Aq fv at he);subst he)|((with_reducible (apply Calls.mono;first|exact Sx.sees2t hx h1 _ _ g1|exact Sx.take hx h1|exact Sx.sees2f hx h1 _ _ g1));clear hx;rintro e w2 ⟨rfl,hx⟩)|(go_at_call 341;(with_reducible refine(Sx.part hx cn q2).mono ?_);clear hx;rintro e w2 ⟨b2,rfl,hx⟩)|((with_reducible (apply Calls.mono;first|exact Sx.of1 (b1:=b2) (f1:=f2) hx 22 y1 (by simp)|exact Sx.part hx cc hT));clear hx;rintro e w2 ⟨b0,rfl,hx⟩))
 all_goals first|exact⟨rfl,rfl,ht,hu⟩|(go_ret;exact hx.res (z0z ..))
theorem ABj(n:Nat)  : AX 384 .wd (n+1):=by
 intro W cb Ys v s r hC hP
 have hx:=Sx.start hC
 clear hC
 simp only[P] at hP
 rcases CQ hP with⟨f,h1,rfl⟩|⟨y1,h1,hP⟩
 rotate_left
 by_cases g1:AP y1.t=bG
 rw[if_pos g1] at hP
 replace hP:=DY h1 hP
 obtain rfl:=Ag hP
 rotate_left
 rw[if_neg g1] at hP
 by_cases g2:AP y1.t=gG
 rw[if_pos g2] at hP
 replace hP:=DY h1 hP
 obtain rfl:=Ag hP
 rotate_left
 rw[if_neg g2] at hP
 rcases Bp hP with⟨f,h3,rfl⟩|⟨y3,h3,g3,rfl⟩|⟨y3,h3,g3,hP⟩
 rotate_left
 rotate_left
 obtain rfl:=Ag hP
 rotate_left
 all_goals (try clear hP)
 all_goals first|(guard_target =~ Calls _ _ _ _ _;go_enter func384,ntmps384)|skip
 all_goals go_wp2_with (first|((with_reducible (apply Calls.mono;first|exact Sx.seesE hx h1 _ _|exact Sx.wantE hx h3 _|exact Sx.wantB hx h3 _ g3));rintro e w9 ⟨he,ht,hu⟩;(unfold Aq fv at he);subst he)|((with_reducible (apply Calls.mono;first|exact Sx.sees1t hx h1 _ g1|exact Sx.take hx h1|exact Sx.sees1f hx h1 _ g1|exact Sx.sees1t hx h1 _ g2|exact Sx.sees1f hx h1 _ g2|exact Sx.want hx h3 _ g3));clear hx;rintro e w2 ⟨rfl,hx⟩)|((with_reducible (apply Calls.mono;first|exact Sx.at0  hx 29 y1  | exact Sx.at0  hx 30 y1  | exact Sx.at0  hx 31 y3 ));clear hx;rintro e w2 ⟨b0,rfl,hx⟩))
 all_goals first|exact⟨rfl,rfl,ht,hu⟩|(go_ret;exact hx.res (z0z ..))
theorem gT(n:Nat)(cb1:JB 293 (.int .i64 1) (.bn 1) n):AX 258 .cm (n+1):=by
 intro W cb Ys v s r hC hP
 have hx:=Sx.start hC
 clear hC
 simp only[P] at hP
 rcases Af hP with⟨f,q1,rfl⟩|⟨f1,s1,q1,hP⟩
 rotate_left
 rcases CQ hP with⟨f,h2,rfl⟩|⟨y2,h2,hP⟩
 rotate_left
 have cz:=Xc (AP y2.t)
 by_cases g2:comp (AP y2.t)=true
 rw[if_pos g2] at hP
 rw[g2] at cz
 replace hP:=DY h2 hP
 rcases Af hP with⟨f,q3,rfl⟩|⟨f3,s3,q3,hP⟩
 rotate_left
 obtain rfl:=Ag hP
 rotate_left
 rw[if_neg g2] at hP
 rw[Bool.eq_false_iff.2 g2] at cz
 obtain rfl:=Ag hP
 rotate_left
 all_goals (try clear hP)
 all_goals first|(guard_target =~ Calls _ _ _ _ _;go_enter func258,ntmps258)|skip
 all_goals go_wp2_with (first|((with_reducible (apply Calls.mono;first|exact Sx.part1E hx cb1 q1|exact Sx.lookE hx h2|exact Sx.part1E hx cb1 q3));rintro e w9 ⟨he,ht,hu⟩;(unfold Aq fv at he);subst he)|(go_at_call 293;(with_reducible refine(Sx.part1 hx cb1 q1).mono ?_);clear hx;rintro e w2 ⟨b1,rfl,hx⟩)|((with_reducible (apply Calls.mono;first|exact Sx.look hx h2|exact Sx.take hx h2));clear hx;rintro e w2 ⟨rfl,hx⟩)|(go_at_call 53;(with_reducible refine(JM _ _ _).mono ?_);rintro e w2 ⟨rfl,b2⟩;(replace hx:=hx.below b2);clear b2)|(go_at_call 145;(with_reducible refine(cz _).mono ?_);rintro e w2 ⟨rfl,hw⟩;(have hw':=hw.symm);subst hw';clear hw)|(go_at_call 293;(with_reducible refine(Sx.part1 hx cb1 q3).mono ?_);clear hx;rintro e w2 ⟨b3,rfl,hx⟩)|(go_at_call 56;(with_reducible refine(Sx.of2 (b1:=b1) (f1:=f1) (b2:=b3) (f2:=f3) hx 21 y2 (by simp) (by simp)).mono ?_);clear hx;rintro e w2 ⟨b0,rfl,hx⟩))
 all_goals first|exact⟨rfl,rfl,ht,hu⟩|(go_ret;exact hx.res (z0z ..))
theorem mG(n:Nat)(cc:∀m,m<=n->AX 228 .ng m):AX 201 .cj (n+1):=by
 intro W cb Ys v s r hC hP
 have hx:=Sx.start hC
 clear hC
 simp only[P] at hP
 rcases Af hP with⟨f,q1,rfl⟩|⟨f1,s1,q1,hP⟩
 rotate_left
 ·have HP:=hid hP
  clear hP
  go_enter func201,ntmps201
  go_wp2_with ((go_at_call 228;(with_reducible refine(Sx.part hx (cc n (z1z _)) q1).mono ?_);clear hx;rintro e w2 ⟨b1,rfl,hx⟩))
  have HX:=hid hx
  clear hx
  go_loopw [3] (λu wr=>∃b fo s' m,u=ptr b/\Sx W wr cb Ys v s' [(b,fo)] []/\P m (.cjT fo) s'=some r/\m<=n) (λ_ wr=>Ys.length-I8 wr cb)
  case atStart=>exact⟨b1,f1,s1,n,rfl,HX.out,HP.out,z1z _⟩
  case round=>
   obtain⟨b,fo,s',m,rfl,hx,hP,hm⟩:=hrel
   clear HP HX q1
   have HM:=hid hx.left
   match m,hP with
   | 0,hP=>exact(Fa hP).elim
   | m+1,hP=>
    simp only[P] at hP
    rcases CQ hP with⟨f,h2,rfl⟩|⟨y2,h2,hP⟩
    rotate_left
    by_cases g2:AP y2.t=dS
    rw[if_pos g2] at hP
    replace hP:=DY h2 hP
    rcases Af hP with⟨f,q3,rfl⟩|⟨f3,s3,q3,hP⟩
    rotate_left
    have HP2:=hid hP
    clear hP
    focus
     go_wp2_with (first|((with_reducible (apply Calls.mono;first|exact Sx.sees1t hx h2 _ g2|exact Sx.take hx h2));clear hx;rintro e w2 ⟨rfl,hx⟩)|(go_at_call 228;(with_reducible refine(Sx.part hx (cc m (by omega)) q3).mono ?_);clear hx;rintro e w2 ⟨b3,rfl,hx⟩)|(go_at_call 31;(with_reducible refine(Sx.at2 (b1:=b) (f1:=fo) (b2:=b3) (f2:=f3) hx 19 y2 (by simp) (by simp)).mono ?_);clear hx;rintro e w2 ⟨b0,rfl,hx⟩))
     go_roundw
     case rel=>exact⟨b0,_,_,m,rfl,hx.sub (by simp) (by simp),HP2.out,by omega⟩
     case measure=>
      rw[hx.left,HM.out]
      have:=Dt q3
      have:=Iw h2
      omega
    rw[if_neg g2] at hP
    obtain rfl:=Ag hP
    rotate_left
    all_goals (try clear hP)
    all_goals go_wp2_with (first|((with_reducible (apply Calls.mono;first|exact Sx.seesE hx h2 _ _|exact Sx.partE hx (cc m (by omega)) q3));rintro e w9 ⟨he,ht,hu⟩;(unfold Aq fv at he);subst he)|((with_reducible (apply Calls.mono;first|exact Sx.sees1t hx h2 _ g2|exact Sx.take hx h2|exact Sx.sees1f hx h2 _ g2));clear hx;rintro e w2 ⟨rfl,hx⟩))
    all_goals first|exact⟨rfl,rfl,ht,hu⟩|(go_ret;exact hx.res (z0z ..))
 all_goals (try clear hP)
 all_goals first|(guard_target =~ Calls _ _ _ _ _;go_enter func201,ntmps201)|skip
 all_goals go_wp2_with ((go_at_call 228;(with_reducible refine(Sx.partE hx (cc n (z1z _)) q1).mono ?_);rintro e w9 ⟨he,ht,hu⟩;(unfold Aq fv at he);subst he))
 all_goals first|exact⟨rfl,rfl,ht,hu⟩|(go_ret;exact hx.res (z0z ..))
theorem oU(n:Nat)(cc:∀m,m<=n->AX 201 .cj m):AX 170 .ex (n+1):=by
 intro W cb Ys v s r hC hP
 have hx:=Sx.start hC
 clear hC
 simp only[P] at hP
 rcases Af hP with⟨f,q1,rfl⟩|⟨f1,s1,q1,hP⟩
 rotate_left
 ·have HP:=hid hP
  clear hP
  go_enter func170,ntmps170
  go_wp2_with ((go_at_call 201;(with_reducible refine(Sx.part hx (cc n (z1z _)) q1).mono ?_);clear hx;rintro e w2 ⟨b1,rfl,hx⟩))
  have HX:=hid hx
  clear hx
  go_loopw [3] (λu wr=>∃b fo s' m,u=ptr b/\Sx W wr cb Ys v s' [(b,fo)] []/\P m (.exT fo) s'=some r/\m<=n) (λ_ wr=>Ys.length-I8 wr cb)
  case atStart=>exact⟨b1,f1,s1,n,rfl,HX.out,HP.out,z1z _⟩
  case round=>
   obtain⟨b,fo,s',m,rfl,hx,hP,hm⟩:=hrel
   clear HP HX q1
   have HM:=hid hx.left
   match m,hP with
   | 0,hP=>exact(Fa hP).elim
   | m+1,hP=>
    simp only[P] at hP
    rcases CQ hP with⟨f,h2,rfl⟩|⟨y2,h2,hP⟩
    rotate_left
    by_cases g2:AP y2.t=bJ
    rw[if_pos g2] at hP
    replace hP:=DY h2 hP
    rcases Af hP with⟨f,q3,rfl⟩|⟨f3,s3,q3,hP⟩
    rotate_left
    have HP2:=hid hP
    clear hP
    focus
     go_wp2_with (first|((with_reducible (apply Calls.mono;first|exact Sx.sees1t hx h2 _ g2|exact Sx.take hx h2));clear hx;rintro e w2 ⟨rfl,hx⟩)|(go_at_call 201;(with_reducible refine(Sx.part hx (cc m (by omega)) q3).mono ?_);clear hx;rintro e w2 ⟨b3,rfl,hx⟩)|(go_at_call 31;(with_reducible refine(Sx.at2 (b1:=b) (f1:=fo) (b2:=b3) (f2:=f3) hx 18 y2 (by simp) (by simp)).mono ?_);clear hx;rintro e w2 ⟨b0,rfl,hx⟩))
     go_roundw
     case rel=>exact⟨b0,_,_,m,rfl,hx.sub (by simp) (by simp),HP2.out,by omega⟩
     case measure=>
      rw[hx.left,HM.out]
      have:=Dt q3
      have:=Iw h2
      omega
    rw[if_neg g2] at hP
    obtain rfl:=Ag hP
    rotate_left
    all_goals (try clear hP)
    all_goals go_wp2_with (first|((with_reducible (apply Calls.mono;first|exact Sx.seesE hx h2 _ _|exact Sx.partE hx (cc m (by omega)) q3));rintro e w9 ⟨he,ht,hu⟩;(unfold Aq fv at he);subst he)|((with_reducible (apply Calls.mono;first|exact Sx.sees1t hx h2 _ g2|exact Sx.take hx h2|exact Sx.sees1f hx h2 _ g2));clear hx;rintro e w2 ⟨rfl,hx⟩))
    all_goals first|exact⟨rfl,rfl,ht,hu⟩|(go_ret;exact hx.res (z0z ..))
 all_goals (try clear hP)
 all_goals first|(guard_target =~ Calls _ _ _ _ _;go_enter func170,ntmps170)|skip
 all_goals go_wp2_with ((go_at_call 201;(with_reducible refine(Sx.partE hx (cc n (z1z _)) q1).mono ?_);rintro e w9 ⟨he,ht,hu⟩;(unfold Aq fv at he);subst he))
 all_goals first|exact⟨rfl,rfl,ht,hu⟩|(go_ret;exact hx.res (z0z ..))
theorem ACJ(n k:Nat)(hk:k<=7)(cu:AX 341 .un n)(cc:k<=6->∀m,m<=n->JB 293 (.int .i64 ((k:Int)+1)) (.bn (k+1)) m):JB 293 (.int .i64 (k:Int)) (.bn k) (n+1):=by
 intro W cb Ys v s r hC hP
 have hx:=Sx.start hC
 clear hC
 simp only[P] at hP
 have wk:IntKind.i64.wrap ((k:Int)+1)=(k:Int)+1:=by rw[IntKind.wrap_i64];omega
 by_cases h6:6<k
 rw[if_pos h6] at hP
 have h6':(k:Int)>6:=by omega
 clear h6
 have hT:=hP
 rcases r with f|⟨fo,s1⟩
 rotate_left
 rotate_left
 rw[if_neg h6] at hP
 replace cc:=cc (by omega)
 have h6':¬ (k:Int)>6:=by omega
 clear h6
 rcases Af hP with⟨f,q1,rfl⟩|⟨f1,s1,q1,hP⟩
 rotate_left
 ·have HP:=hid hP
  clear hP
  go_enter func293,ntmps293
  go_wp2_with ((go_at_call 293;(with_reducible refine(Sx.part1 hx (cc n (z1z _)) q1).mono ?_);clear hx;rintro e w2 ⟨b1,rfl,hx⟩))
  have HX:=hid hx
  clear hx
  go_loopw [5] (λu wr=>∃b fo s' m,u=ptr b/\Sx W wr cb Ys v s' [(b,fo)] []/\P m (.bnT k fo) s'=some r/\m<=n) (λ_ wr=>Ys.length-I8 wr cb)
  case atStart=>exact⟨b1,f1,s1,n,rfl,HX.out,HP.out,z1z _⟩
  case round=>
   obtain⟨b,fo,s',m,rfl,hx,hP,hm⟩:=hrel
   clear HP HX q1
   have HM:=hid hx.left
   match m,hP with
   | 0,hP=>exact(Fa hP).elim
   | m+1,hP=>
    simp only[P] at hP
    rcases CQ hP with⟨f,h2,rfl⟩|⟨y2,h2,hP⟩
    rotate_left
    have cz:=Vl (AP y2.t)
    by_cases g2:tight (AP y2.t)=k
    rw[if_pos g2] at hP
    have e2:(((tight (AP y2.t):Nat):Int)==(k:Int))=true:=by simp[g2]
    clear g2
    replace hP:=DY h2 hP
    rcases Af hP with⟨f,q3,rfl⟩|⟨f3,s3,q3,hP⟩
    rotate_left
    have HP2:=hid hP
    clear hP
    focus
     go_wp2_with (first|((with_reducible (apply Calls.mono;first|exact Sx.look hx h2|exact Sx.take hx h2));clear hx;rintro e w2 ⟨rfl,hx⟩)|(go_at_call 53;(with_reducible refine(JM _ _ _).mono ?_);rintro e w2 ⟨rfl,b2⟩;(replace hx:=hx.below b2);clear b2)|(go_at_call 146;(with_reducible refine(cz _).mono ?_);rintro e w2 ⟨rfl,hw⟩;(have hw':=hw.symm);subst hw';clear hw cz)|(go_at_call 293;(with_reducible refine(Sx.part1 hx (cc m (by omega)) q3).mono ?_);clear hx;rintro e w2 ⟨b3,rfl,hx⟩)|(go_at_call 56;(with_reducible refine(Sx.of2 (b1:=b) (f1:=fo) (b2:=b3) (f2:=f3) hx 21 y2 (by simp) (by simp)).mono ?_);clear hx;rintro e w2 ⟨b0,rfl,hx⟩))
     go_roundw
     case rel=>exact⟨b0,_,_,m,rfl,hx.sub (by simp) (by simp),HP2.out,by omega⟩
     case measure=>
      rw[hx.left,HM.out]
      have:=Dt q3
      have:=Iw h2
      omega
    rw[if_neg g2] at hP
    have e2:(((tight (AP y2.t):Nat):Int)==(k:Int))=false:=by simp;omega
    clear g2
    obtain rfl:=Ag hP
    rotate_left
    all_goals (try clear hP)
    all_goals go_wp2_with (first|((with_reducible (apply Calls.mono;first|exact Sx.lookE hx h2|exact Sx.part1E hx (cc m (by omega)) q3));rintro e w9 ⟨he,ht,hu⟩;(unfold Aq fv at he);subst he)|((with_reducible (apply Calls.mono;first|exact Sx.look hx h2|exact Sx.take hx h2));clear hx;rintro e w2 ⟨rfl,hx⟩)|(go_at_call 53;(with_reducible refine(JM _ _ _).mono ?_);rintro e w2 ⟨rfl,b2⟩;(replace hx:=hx.below b2);clear b2)|(go_at_call 146;(with_reducible refine(cz _).mono ?_);rintro e w2 ⟨rfl,hw⟩;(have hw':=hw.symm);subst hw';clear hw cz))
    all_goals first|exact⟨rfl,rfl,ht,hu⟩|(go_ret;exact hx.res (z0z ..))
 all_goals (try clear hP)
 all_goals first|(guard_target =~ Calls _ _ _ _ _;go_enter func293,ntmps293)|skip
 all_goals go_wp2_with (first|((with_reducible (apply Calls.mono;first|exact Sx.partE hx cu hT|exact Sx.part1E hx (cc n (z1z _)) q1));rintro e w9 ⟨he,ht,hu⟩;(unfold Aq fv at he);subst he)|(go_at_call 341;(with_reducible refine(Sx.part hx cu hT).mono ?_);clear hx;rintro e w2 ⟨b0,rfl,hx⟩))
 all_goals first|exact⟨rfl,rfl,ht,hu⟩|(go_ret;exact hx.res (z0z ..))
theorem je(n:Nat)(cp:AX 377 .pr n)(ce:∀m,m<=n->AX 170 .ex m):AX 365 .po (n+1):=by
 intro W cb Ys v s r hC hP
 have hx:=Sx.start hC
 clear hC
 simp only[P] at hP
 rcases Af hP with⟨f,q1,rfl⟩|⟨f1,s1,q1,hP⟩
 rotate_left
 ·have HP:=hid hP
  clear hP
  go_enter func365,ntmps365
  go_wp2_with ((go_at_call 377;(with_reducible refine(Sx.part hx cp q1).mono ?_);clear hx;rintro e w2 ⟨b1,rfl,hx⟩))
  have HX:=hid hx
  clear hx
  go_loopw [3] (λu wr=>∃b fo s' m,u=ptr b/\Sx W wr cb Ys v s' [(b,fo)] []/\P m (.poT fo) s'=some r/\m<=n) (λ_ wr=>Ys.length-I8 wr cb)
  case atStart=>exact⟨b1,f1,s1,n,rfl,HX.out,HP.out,z1z _⟩
  case round=>
   obtain⟨b,fo,s',m,rfl,hx,hP,hm⟩:=hrel
   clear HP HX q1
   have HM:=hid hx.left
   match m,hP with
   | 0,hP=>exact(Fa hP).elim
   | m+1,hP=>
    simp only[P] at hP
    rcases CQ hP with⟨f,h2,rfl⟩|⟨y2,h2,hP⟩
    rotate_left
    by_cases g2:AP y2.t=Uj
    rw[if_pos g2] at hP
    replace hP:=DY h2 hP
    rcases Af hP with⟨f,q3,rfl⟩|⟨f3,s3,q3,hP⟩
    rotate_left
    rcases Bp hP with⟨f,h4,rfl⟩|⟨y4,h4,g4,rfl⟩|⟨y4,h4,g4,hP⟩
    rotate_left
    rotate_left
    have HP2:=hid hP
    clear hP
    focus
     go_wp2_with (first|((with_reducible (apply Calls.mono;first|exact Sx.sees1t hx h2 _ g2|exact Sx.take hx h2|exact Sx.want hx h4 _ g4));clear hx;rintro e w2 ⟨rfl,hx⟩)|(go_at_call 170;(with_reducible refine(Sx.part hx (ce m (by omega)) q3).mono ?_);clear hx;rintro e w2 ⟨b3,rfl,hx⟩)|(go_at_call 31;(with_reducible refine(Sx.at2 (b1:=b) (f1:=fo) (b2:=b3) (f2:=f3) hx 24 y2 (by simp) (by simp)).mono ?_);clear hx;rintro e w2 ⟨b0,rfl,hx⟩))
     go_roundw
     case rel=>exact⟨b0,_,_,m,rfl,hx.sub (by simp) (by simp),HP2.out,by omega⟩
     case measure=>
      rw[hx.left,HM.out]
      have:=Dt q3
      have:=Iw h2
      have:=Iw h4
      omega
    rw[if_neg g2] at hP
    obtain rfl:=Ag hP
    rotate_left
    all_goals (try clear hP)
    all_goals go_wp2_with (first|((with_reducible (apply Calls.mono;first|exact Sx.seesE hx h2 _ _|exact Sx.partE hx (ce m (by omega)) q3|exact Sx.wantE hx h4 _|exact Sx.wantB hx h4 _ g4));rintro e w9 ⟨he,ht,hu⟩;(unfold Aq fv at he);subst he)|((with_reducible (apply Calls.mono;first|exact Sx.sees1t hx h2 _ g2|exact Sx.take hx h2|exact Sx.sees1f hx h2 _ g2));clear hx;rintro e w2 ⟨rfl,hx⟩)|(go_at_call 170;(with_reducible refine(Sx.part hx (ce m (by omega)) q3).mono ?_);clear hx;rintro e w2 ⟨b3,rfl,hx⟩)|(go_at_call 31;(with_reducible refine(Sx.at2 (b1:=b) (f1:=fo) (b2:=b3) (f2:=f3) hx 24 y2 (by simp) (by simp)).mono ?_);clear hx;rintro e w2 ⟨b0,rfl,hx⟩))
    all_goals first|exact⟨rfl,rfl,ht,hu⟩|(go_ret;exact hx.res (z0z ..))
 all_goals (try clear hP)
 all_goals first|(guard_target =~ Calls _ _ _ _ _;go_enter func365,ntmps365)|skip
 all_goals go_wp2_with ((go_at_call 377;(with_reducible refine(Sx.partE hx cp q1).mono ?_);rintro e w9 ⟨he,ht,hu⟩;(unfold Aq fv at he);subst he))
 all_goals first|exact⟨rfl,rfl,ht,hu⟩|(go_ret;exact hx.res (z0z ..))
theorem pX(n:Nat)(cn:AX 383 .nm n)(cw:AX 384 .wd n)(ce:AX 170 .ex n):AX 377 .pr (n+1):=by
 intro W cb Ys v s r hC hP
 have hx:=Sx.start hC
 clear hC
 simp only[P] at hP
 rcases CQ hP with⟨f,h1,rfl⟩|⟨y1,h1,hP⟩
 rotate_left
 by_cases g4:y1.t.kind=4
 rw[if_pos g4] at hP
 have e4:(y1.t.kind==4)=true:=by simp[g4]
 clear g4
 replace hP:=DY h1 hP
 obtain rfl:=Ag hP
 rotate_left
 rw[if_neg g4] at hP
 have e4:(y1.t.kind==4)=false:=by simp[g4]
 by_cases g5:y1.t.kind=5
 rw[if_pos g5] at hP
 have e5:(y1.t.kind==5)=true:=by simp[g5]
 clear g5
 replace hP:=DY h1 hP
 obtain rfl:=Ag hP
 rotate_left
 rw[if_neg g5] at hP
 have e5:(y1.t.kind==5)=false:=by simp[g5]
 by_cases g6:y1.t.kind=6
 rw[if_pos g6] at hP
 have e6:(y1.t.kind==6)=true:=by simp[g6]
 clear g6
 replace hP:=DY h1 hP
 obtain rfl:=Ag hP
 rotate_left
 rw[if_neg g6] at hP
 have e6:(y1.t.kind==6)=false:=by simp[g6]
 by_cases g1:y1.t.kind=1
 rw[if_pos g1] at hP
 have e1:(y1.t.kind==1)=true:=by simp[g1]
 clear g1
 have hT:=hP
 rcases r with f|⟨fo,s1⟩
 rotate_left
 rotate_left
 rw[if_neg g1] at hP
 have e1:(y1.t.kind==1)=false:=by simp[g1]
 by_cases g2:y1.t.kind=2
 rw[if_pos g2] at hP
 have e2:(y1.t.kind==2)=true:=by simp[g2]
 clear g2
 have hT:=hP
 rcases r with f|⟨fo,s1⟩
 rotate_left
 rotate_left
 rw[if_neg g2] at hP
 have e2:(y1.t.kind==2)=false:=by simp[g2]
 rcases Bp hP with⟨f,h2,rfl⟩|⟨y2,h2,g2,rfl⟩|⟨y2,h2,g2,hP⟩
 rotate_left
 rotate_left
 rcases Af hP with⟨f,q3,rfl⟩|⟨f3,s3,q3,hP⟩
 rotate_left
 rcases Bp hP with⟨f,h4,rfl⟩|⟨y4,h4,g4,rfl⟩|⟨y4,h4,g4,hP⟩
 rotate_left
 rotate_left
 obtain rfl:=Ag hP
 rotate_left
 all_goals (try clear hP)
 all_goals first|(guard_target =~ Calls _ _ _ _ _;go_enter func377,ntmps377)|skip
 all_goals go_wp2_with (first|((with_reducible (apply Calls.mono;first|exact Sx.lookE hx h1|exact Sx.lookE (hx.alloc _) h1|exact Sx.partE hx cn hT|exact Sx.partE (hx.alloc _) cn hT|exact Sx.partE hx cw hT|exact Sx.partE (hx.alloc _) cw hT|exact Sx.wantE hx h2 _|exact Sx.wantE (hx.alloc _) h2 _|exact Sx.wantB hx h2 _ g2|exact Sx.wantB (hx.alloc _) h2 _ g2|exact Sx.partE hx ce q3|exact Sx.partE (hx.alloc _) ce q3|exact Sx.wantE hx h4 _|exact Sx.wantE (hx.alloc _) h4 _|exact Sx.wantB hx h4 _ g4|exact Sx.wantB (hx.alloc _) h4 _ g4));rintro e w9 ⟨he,ht,hu⟩;(unfold Aq fv at he);subst he)|(go_at_call 32;(with_reducible refine(Sx.look hx h1).mono ?_);rintro e w2 ⟨he,hx2⟩;(unfold tv at he);subst he;(replace hx:=hx2);clear hx2)|((with_reducible (apply Calls.mono;first|exact Sx.take hx h1|exact Sx.take (hx.alloc _) h1|exact Sx.want hx h2 _ g2|exact Sx.want (hx.alloc _) h2 _ g2|exact Sx.want hx h4 _ g4|exact Sx.want (hx.alloc _) h4 _ g4));clear hx;rintro e w2 ⟨rfl,hx⟩)|((with_reducible (apply Calls.mono;first|exact Sx.of0  hx 26 y1  | exact Sx.of0  (hx.alloc _) 26 y1  | exact Sx.of0  hx 27 y1  | exact Sx.of0  (hx.alloc _) 27 y1  | exact Sx.of0  hx 28 y1  | exact Sx.of0  (hx.alloc _) 28 y1  | exact Sx.part hx cn hT|exact Sx.part (hx.alloc _) cn hT|exact Sx.part hx cw hT|exact Sx.part (hx.alloc _) cw hT));clear hx;rintro e w2 ⟨b0,rfl,hx⟩)|((with_reducible (apply Calls.mono;first|exact Sx.part hx ce q3|exact Sx.part (hx.alloc _) ce q3));clear hx;rintro e w2 ⟨b3,rfl,hx⟩))
 all_goals first|exact⟨rfl,rfl,ht,hu⟩|(go_ret;exact hx.res (z0z ..))
end Go.Proofs.YtjplieobnknnpaaGreatDoor.W.Tr

import Derived.Test.YtgchnkgolclmgaaGreatDoorJM
open List renaming mem_cons_self → aH
open Nat renaming le_refl → aL
open Go.Proofs.Tryz
set_option maxRecDepth 1000000
set_option maxHeartbeats 8000000
namespace Go.Proofs.YtgchnkgolclmgaaGreatDoor.W.Tr
open Go.ChangeShapes Go.WideShapes Go.RowKit Go.Shelf
set_option linter.unusedVariables false
set_option linter.unusedSimpArgs false
theorem E8(n:Nat)(cn:fZ 172 .ng n)(cc:fZ 178 .cm n):fZ 172 .ng (n+1):=by
 intro W cb Ys v s r hC hP
 have hx:=Sx.start hC
 clear hC
 simp only[P] at hP
 rcases bU hP with⟨f,h1,rfl⟩|⟨y1,h1,hP⟩
 rotate_left
 by_cases g1:aG y1.t=zG
 rw[if_pos g1] at hP
 replace hP:=dK h1 hP
 rcases aX hP with⟨f,q2,rfl⟩|⟨f2,s2,q2,hP⟩
 rotate_left
 obtain rfl:=aQ hP
 rotate_left
 rw[if_neg g1] at hP
 have hT:=hP
 rcases r with f|⟨fo,s1⟩
 rotate_left
 rotate_left
 all_goals (try clear hP)
 all_goals first|(guard_target =~ Calls _ _ _ _ _;go_enter func172,ntmps172)|skip
 all_goals go_wp2_with (first|((with_reducible (apply Calls.mono;first|exact Sx.kV hx h1 _ _|exact Sx.dN hx cn q2|exact Sx.dN hx cc hT));rintro e w9 ⟨he,ht,hu⟩;(unfold kC fv at he);subst he)|((with_reducible (apply Calls.mono;first|exact Sx.gB hx h1 _ g1|exact Sx.take hx h1|exact Sx.iO hx h1 _ g1));clear hx;rintro e w2 ⟨rfl,hx⟩)|(go_at_call 172;(with_reducible refine(Sx.part hx cn q2).mono ?_);clear hx;rintro e w2 ⟨b2,rfl,hx⟩)|((with_reducible (apply Calls.mono;first|exact Sx.at1 (b1:=b2) (f1:=f2) hx 20 y1 (by simp)|exact Sx.part hx cc hT));clear hx;rintro e w2 ⟨b0,rfl,hx⟩))
 all_goals first|exact⟨rfl,rfl,ht,hu⟩|(go_ret;exact hx.res (aH ..))
theorem Ns(n:Nat)(cn:fZ 185 .un n)(cc:fZ 186 .po n):fZ 185 .un (n+1):=by
 intro W cb Ys v s r hC hP
 have hx:=Sx.start hC
 clear hC
 simp only[P] at hP
 rcases bU hP with⟨f,h1,rfl⟩|⟨y1,h1,hP⟩
 rotate_left
 by_cases g1:aG y1.t=Cy\/aG y1.t=Ct
 rw[if_pos g1] at hP
 replace hP:=dK h1 hP
 rcases aX hP with⟨f,q2,rfl⟩|⟨f2,s2,q2,hP⟩
 rotate_left
 obtain rfl:=aQ hP
 rotate_left
 rw[if_neg g1] at hP
 have hT:=hP
 rcases r with f|⟨fo,s1⟩
 rotate_left
 rotate_left
 all_goals (try clear hP)
 all_goals first|(guard_target =~ Calls _ _ _ _ _;go_enter func185,ntmps185)|skip
 all_goals go_wp2_with (first|((with_reducible (apply Calls.mono;first|exact Sx.kV hx h1 _ _|exact Sx.dN hx cn q2|exact Sx.dN hx cc hT));rintro e w9 ⟨he,ht,hu⟩;(unfold kC fv at he);subst he)|((with_reducible (apply Calls.mono;first|exact Sx.RY hx h1 _ _ g1|exact Sx.take hx h1|exact Sx.RZ hx h1 _ _ g1));clear hx;rintro e w2 ⟨rfl,hx⟩)|(go_at_call 185;(with_reducible refine(Sx.part hx cn q2).mono ?_);clear hx;rintro e w2 ⟨b2,rfl,hx⟩)|((with_reducible (apply Calls.mono;first|exact Sx.of1 (b1:=b2) (f1:=f2) hx 22 y1 (by simp)|exact Sx.part hx cc hT));clear hx;rintro e w2 ⟨b0,rfl,hx⟩))
 all_goals first|exact⟨rfl,rfl,ht,hu⟩|(go_ret;exact hx.res (aH ..))
theorem Qy(n:Nat)  : fZ 189 .wd (n+1):=by
 intro W cb Ys v s r hC hP
 have hx:=Sx.start hC
 clear hC
 simp only[P] at hP
 rcases bU hP with⟨f,h1,rfl⟩|⟨y1,h1,hP⟩
 rotate_left
 by_cases g1:aG y1.t=kF
 rw[if_pos g1] at hP
 replace hP:=dK h1 hP
 obtain rfl:=aQ hP
 rotate_left
 rw[if_neg g1] at hP
 by_cases g2:aG y1.t=jG
 rw[if_pos g2] at hP
 replace hP:=dK h1 hP
 obtain rfl:=aQ hP
 rotate_left
 rw[if_neg g2] at hP
 rcases bK hP with⟨f,h3,rfl⟩|⟨y3,h3,g3,rfl⟩|⟨y3,h3,g3,hP⟩
 rotate_left
 rotate_left
 obtain rfl:=aQ hP
 rotate_left
 all_goals (try clear hP)
 all_goals first|(guard_target =~ Calls _ _ _ _ _;go_enter func189,ntmps189)|skip
 all_goals go_wp2_with (first|((with_reducible (apply Calls.mono;first|exact Sx.kV hx h1 _ _|exact Sx.aN hx h3 _|exact Sx.fG hx h3 _ g3));rintro e w9 ⟨he,ht,hu⟩;(unfold kC fv at he);subst he)|((with_reducible (apply Calls.mono;first|exact Sx.gB hx h1 _ g1|exact Sx.take hx h1|exact Sx.iO hx h1 _ g1|exact Sx.gB hx h1 _ g2|exact Sx.iO hx h1 _ g2|exact Sx.want hx h3 _ g3));clear hx;rintro e w2 ⟨rfl,hx⟩)|((with_reducible (apply Calls.mono;first|exact Sx.NM  hx 29 y1  | exact Sx.NM  hx 30 y1  | exact Sx.NM  hx 31 y3 ));clear hx;rintro e w2 ⟨b0,rfl,hx⟩))
 all_goals first|exact⟨rfl,rfl,ht,hu⟩|(go_ret;exact hx.res (aH ..))
theorem Au(n:Nat)(xJ:xZ 183 (.int .i64 1) (.bn 1) n):fZ 178 .cm (n+1):=by
 intro W cb Ys v s r hC hP
 have hx:=Sx.start hC
 clear hC
 simp only[P] at hP
 rcases aX hP with⟨f,q1,rfl⟩|⟨f1,s1,q1,hP⟩
 rotate_left
 rcases bU hP with⟨f,h2,rfl⟩|⟨y2,h2,hP⟩
 rotate_left
 have cz:=xG (aG y2.t)
 by_cases g2:comp (aG y2.t)=true
 rw[if_pos g2] at hP
 rw[g2] at cz
 replace hP:=dK h2 hP
 rcases aX hP with⟨f,q3,rfl⟩|⟨f3,s3,q3,hP⟩
 rotate_left
 obtain rfl:=aQ hP
 rotate_left
 rw[if_neg g2] at hP
 rw[Bool.eq_false_iff.2 g2] at cz
 obtain rfl:=aQ hP
 rotate_left
 all_goals (try clear hP)
 all_goals first|(guard_target =~ Calls _ _ _ _ _;go_enter func178,ntmps178)|skip
 all_goals go_wp2_with (first|((with_reducible (apply Calls.mono;first|exact Sx.tX hx xJ q1|exact Sx.zB hx h2|exact Sx.tX hx xJ q3));rintro e w9 ⟨he,ht,hu⟩;(unfold kC fv at he);subst he)|(go_at_call 183;(with_reducible refine(Sx.jD hx xJ q1).mono ?_);clear hx;rintro e w2 ⟨b1,rfl,hx⟩)|((with_reducible (apply Calls.mono;first|exact Sx.look hx h2|exact Sx.take hx h2));clear hx;rintro e w2 ⟨rfl,hx⟩)|(go_at_call 49;(with_reducible refine(kI _ _ _).mono ?_);rintro e w2 ⟨rfl,b2⟩;(replace hx:=hx.below b2);clear b2)|(go_at_call 124;(with_reducible refine(cz _).mono ?_);rintro e w2 ⟨rfl,hw⟩;(have hw':=hw.symm);subst hw';clear hw)|(go_at_call 183;(with_reducible refine(Sx.jD hx xJ q3).mono ?_);clear hx;rintro e w2 ⟨b3,rfl,hx⟩)|(go_at_call 52;(with_reducible refine(Sx.of2 (b1:=b1) (f1:=f1) (b2:=b3) (f2:=f3) hx 21 y2 (by simp) (by simp)).mono ?_);clear hx;rintro e w2 ⟨b0,rfl,hx⟩))
 all_goals first|exact⟨rfl,rfl,ht,hu⟩|(go_ret;exact hx.res (aH ..))
theorem yC(n:Nat)(cc:∀m,m<=n->fZ 172 .ng m):fZ 165 .cj (n+1):=by
 intro W cb Ys v s r hC hP
 have hx:=Sx.start hC
 clear hC
 simp only[P] at hP
 rcases aX hP with⟨f,q1,rfl⟩|⟨f1,s1,q1,hP⟩
 rotate_left
 ·have HP:=hid hP
  clear hP
  go_enter func165,ntmps165
  go_wp2_with ((go_at_call 172;(with_reducible refine(Sx.part hx (cc n (aL _)) q1).mono ?_);clear hx;rintro e w2 ⟨b1,rfl,hx⟩))
  have HX:=hid hx
  clear hx
  go_loopw [3] (λu wr=>∃b fo s' m,u=ptr b/\Sx W wr cb Ys v s' [(b,fo)] []/\P m (.xH fo) s'=some r/\m<=n) (λ_ wr=>Ys.length-NK wr cb)
  case atStart=>exact⟨b1,f1,s1,n,rfl,HX.out,HP.out,aL _⟩
  case round=>
   obtain⟨b,fo,s',m,rfl,hx,hP,hm⟩:=hrel
   clear HP HX q1
   have HM:=hid hx.left
   match m,hP with
   | 0,hP=>exact(iY hP).elim
   | m+1,hP=>
    simp only[P] at hP
    rcases bU hP with⟨f,h2,rfl⟩|⟨y2,h2,hP⟩
    rotate_left
    by_cases g2:aG y2.t=uP
    rw[if_pos g2] at hP
    replace hP:=dK h2 hP
    rcases aX hP with⟨f,q3,rfl⟩|⟨f3,s3,q3,hP⟩
    rotate_left
    have qU:=hid hP
    clear hP
    focus
     go_wp2_with (first|((with_reducible (apply Calls.mono;first|exact Sx.gB hx h2 _ g2|exact Sx.take hx h2));clear hx;rintro e w2 ⟨rfl,hx⟩)|(go_at_call 172;(with_reducible refine(Sx.part hx (cc m (by omega)) q3).mono ?_);clear hx;rintro e w2 ⟨b3,rfl,hx⟩)|(go_at_call 28;(with_reducible refine(Sx.at2 (b1:=b) (f1:=fo) (b2:=b3) (f2:=f3) hx 19 y2 (by simp) (by simp)).mono ?_);clear hx;rintro e w2 ⟨b0,rfl,hx⟩))
     go_roundw
     case rel=>exact⟨b0,_,_,m,rfl,hx.sub (by simp) (by simp),qU.out,by omega⟩
     case measure=>
      rw[hx.left,HM.out]
      have:=lT q3
      have:=iH h2
      omega
    rw[if_neg g2] at hP
    obtain rfl:=aQ hP
    rotate_left
    all_goals (try clear hP)
    all_goals go_wp2_with (first|((with_reducible (apply Calls.mono;first|exact Sx.kV hx h2 _ _|exact Sx.dN hx (cc m (by omega)) q3));rintro e w9 ⟨he,ht,hu⟩;(unfold kC fv at he);subst he)|((with_reducible (apply Calls.mono;first|exact Sx.gB hx h2 _ g2|exact Sx.take hx h2|exact Sx.iO hx h2 _ g2));clear hx;rintro e w2 ⟨rfl,hx⟩))
    all_goals first|exact⟨rfl,rfl,ht,hu⟩|(go_ret;exact hx.res (aH ..))
 all_goals (try clear hP)
 all_goals first|(guard_target =~ Calls _ _ _ _ _;go_enter func165,ntmps165)|skip
 all_goals go_wp2_with ((go_at_call 172;(with_reducible refine(Sx.dN hx (cc n (aL _)) q1).mono ?_);rintro e w9 ⟨he,ht,hu⟩;(unfold kC fv at he);subst he))
 all_goals first|exact⟨rfl,rfl,ht,hu⟩|(go_ret;exact hx.res (aH ..))
theorem Ak(n:Nat)(cc:∀m,m<=n->fZ 165 .cj m):fZ 148 .ex (n+1):=by
 intro W cb Ys v s r hC hP
 have hx:=Sx.start hC
 clear hC
 simp only[P] at hP
 rcases aX hP with⟨f,q1,rfl⟩|⟨f1,s1,q1,hP⟩
 rotate_left
 ·have HP:=hid hP
  clear hP
  go_enter func148,ntmps148
  go_wp2_with ((go_at_call 165;(with_reducible refine(Sx.part hx (cc n (aL _)) q1).mono ?_);clear hx;rintro e w2 ⟨b1,rfl,hx⟩))
  have HX:=hid hx
  clear hx
  go_loopw [3] (λu wr=>∃b fo s' m,u=ptr b/\Sx W wr cb Ys v s' [(b,fo)] []/\P m (.xB fo) s'=some r/\m<=n) (λ_ wr=>Ys.length-NK wr cb)
  case atStart=>exact⟨b1,f1,s1,n,rfl,HX.out,HP.out,aL _⟩
  case round=>
   obtain⟨b,fo,s',m,rfl,hx,hP,hm⟩:=hrel
   clear HP HX q1
   have HM:=hid hx.left
   match m,hP with
   | 0,hP=>exact(iY hP).elim
   | m+1,hP=>
    simp only[P] at hP
    rcases bU hP with⟨f,h2,rfl⟩|⟨y2,h2,hP⟩
    rotate_left
    by_cases g2:aG y2.t=Cw
    rw[if_pos g2] at hP
    replace hP:=dK h2 hP
    rcases aX hP with⟨f,q3,rfl⟩|⟨f3,s3,q3,hP⟩
    rotate_left
    have qU:=hid hP
    clear hP
    focus
     go_wp2_with (first|((with_reducible (apply Calls.mono;first|exact Sx.gB hx h2 _ g2|exact Sx.take hx h2));clear hx;rintro e w2 ⟨rfl,hx⟩)|(go_at_call 165;(with_reducible refine(Sx.part hx (cc m (by omega)) q3).mono ?_);clear hx;rintro e w2 ⟨b3,rfl,hx⟩)|(go_at_call 28;(with_reducible refine(Sx.at2 (b1:=b) (f1:=fo) (b2:=b3) (f2:=f3) hx 18 y2 (by simp) (by simp)).mono ?_);clear hx;rintro e w2 ⟨b0,rfl,hx⟩))
     go_roundw
     case rel=>exact⟨b0,_,_,m,rfl,hx.sub (by simp) (by simp),qU.out,by omega⟩
     case measure=>
      rw[hx.left,HM.out]
      have:=lT q3
      have:=iH h2
      omega
    rw[if_neg g2] at hP
    obtain rfl:=aQ hP
    rotate_left
    all_goals (try clear hP)
    all_goals go_wp2_with (first|((with_reducible (apply Calls.mono;first|exact Sx.kV hx h2 _ _|exact Sx.dN hx (cc m (by omega)) q3));rintro e w9 ⟨he,ht,hu⟩;(unfold kC fv at he);subst he)|((with_reducible (apply Calls.mono;first|exact Sx.gB hx h2 _ g2|exact Sx.take hx h2|exact Sx.iO hx h2 _ g2));clear hx;rintro e w2 ⟨rfl,hx⟩))
    all_goals first|exact⟨rfl,rfl,ht,hu⟩|(go_ret;exact hx.res (aH ..))
 all_goals (try clear hP)
 all_goals first|(guard_target =~ Calls _ _ _ _ _;go_enter func148,ntmps148)|skip
 all_goals go_wp2_with ((go_at_call 165;(with_reducible refine(Sx.dN hx (cc n (aL _)) q1).mono ?_);rintro e w9 ⟨he,ht,hu⟩;(unfold kC fv at he);subst he))
 all_goals first|exact⟨rfl,rfl,ht,hu⟩|(go_ret;exact hx.res (aH ..))
theorem ND(n k:Nat)(hk:k<=7)(cu:fZ 185 .un n)(cc:k<=6->∀m,m<=n->xZ 183 (.int .i64 ((k:Int)+1)) (.bn (k+1)) m):xZ 183 (.int .i64 (k:Int)) (.bn k) (n+1):=by
 intro W cb Ys v s r hC hP
 have hx:=Sx.start hC
 clear hC
 simp only[P] at hP
 have wk:IntKind.i64.wrap ((k:Int)+1)=(k:Int)+1:=by rw[IntKind.wrap_i64];omega
 by_cases h6:6<k
 rw[if_pos h6] at hP
 have h6':(k:Int)>6:=by omega
 clear h6
 have hT:=hP
 rcases r with f|⟨fo,s1⟩
 rotate_left
 rotate_left
 rw[if_neg h6] at hP
 replace cc:=cc (by omega)
 have h6':¬ (k:Int)>6:=by omega
 clear h6
 rcases aX hP with⟨f,q1,rfl⟩|⟨f1,s1,q1,hP⟩
 rotate_left
 ·have HP:=hid hP
  clear hP
  go_enter func183,ntmps183
  go_wp2_with ((go_at_call 183;(with_reducible refine(Sx.jD hx (cc n (aL _)) q1).mono ?_);clear hx;rintro e w2 ⟨b1,rfl,hx⟩))
  have HX:=hid hx
  clear hx
  go_loopw [5] (λu wr=>∃b fo s' m,u=ptr b/\Sx W wr cb Ys v s' [(b,fo)] []/\P m (.xM k fo) s'=some r/\m<=n) (λ_ wr=>Ys.length-NK wr cb)
  case atStart=>exact⟨b1,f1,s1,n,rfl,HX.out,HP.out,aL _⟩
  case round=>
   obtain⟨b,fo,s',m,rfl,hx,hP,hm⟩:=hrel
   clear HP HX q1
   have HM:=hid hx.left
   match m,hP with
   | 0,hP=>exact(iY hP).elim
   | m+1,hP=>
    simp only[P] at hP
    rcases bU hP with⟨f,h2,rfl⟩|⟨y2,h2,hP⟩
    rotate_left
    have cz:=Fe (aG y2.t)
    by_cases g2:tight (aG y2.t)=k
    rw[if_pos g2] at hP
    have e2:(((tight (aG y2.t):Nat):Int)==(k:Int))=true:=by simp[g2]
    clear g2
    replace hP:=dK h2 hP
    rcases aX hP with⟨f,q3,rfl⟩|⟨f3,s3,q3,hP⟩
    rotate_left
    have qU:=hid hP
    clear hP
    focus
     go_wp2_with (first|((with_reducible (apply Calls.mono;first|exact Sx.look hx h2|exact Sx.take hx h2));clear hx;rintro e w2 ⟨rfl,hx⟩)|(go_at_call 49;(with_reducible refine(kI _ _ _).mono ?_);rintro e w2 ⟨rfl,b2⟩;(replace hx:=hx.below b2);clear b2)|(go_at_call 125;(with_reducible refine(cz _).mono ?_);rintro e w2 ⟨rfl,hw⟩;(have hw':=hw.symm);subst hw';clear hw cz)|(go_at_call 183;(with_reducible refine(Sx.jD hx (cc m (by omega)) q3).mono ?_);clear hx;rintro e w2 ⟨b3,rfl,hx⟩)|(go_at_call 52;(with_reducible refine(Sx.of2 (b1:=b) (f1:=fo) (b2:=b3) (f2:=f3) hx 21 y2 (by simp) (by simp)).mono ?_);clear hx;rintro e w2 ⟨b0,rfl,hx⟩))
     go_roundw
     case rel=>exact⟨b0,_,_,m,rfl,hx.sub (by simp) (by simp),qU.out,by omega⟩
     case measure=>
      rw[hx.left,HM.out]
      have:=lT q3
      have:=iH h2
      omega
    rw[if_neg g2] at hP
    have e2:(((tight (aG y2.t):Nat):Int)==(k:Int))=false:=by simp;omega
    clear g2
    obtain rfl:=aQ hP
    rotate_left
    all_goals (try clear hP)
    all_goals go_wp2_with (first|((with_reducible (apply Calls.mono;first|exact Sx.zB hx h2|exact Sx.tX hx (cc m (by omega)) q3));rintro e w9 ⟨he,ht,hu⟩;(unfold kC fv at he);subst he)|((with_reducible (apply Calls.mono;first|exact Sx.look hx h2|exact Sx.take hx h2));clear hx;rintro e w2 ⟨rfl,hx⟩)|(go_at_call 49;(with_reducible refine(kI _ _ _).mono ?_);rintro e w2 ⟨rfl,b2⟩;(replace hx:=hx.below b2);clear b2)|(go_at_call 125;(with_reducible refine(cz _).mono ?_);rintro e w2 ⟨rfl,hw⟩;(have hw':=hw.symm);subst hw';clear hw cz))
    all_goals first|exact⟨rfl,rfl,ht,hu⟩|(go_ret;exact hx.res (aH ..))
 all_goals (try clear hP)
 all_goals first|(guard_target =~ Calls _ _ _ _ _;go_enter func183,ntmps183)|skip
 all_goals go_wp2_with (first|((with_reducible (apply Calls.mono;first|exact Sx.dN hx cu hT|exact Sx.tX hx (cc n (aL _)) q1));rintro e w9 ⟨he,ht,hu⟩;(unfold kC fv at he);subst he)|(go_at_call 185;(with_reducible refine(Sx.part hx cu hT).mono ?_);clear hx;rintro e w2 ⟨b0,rfl,hx⟩))
 all_goals first|exact⟨rfl,rfl,ht,hu⟩|(go_ret;exact hx.res (aH ..))
theorem I9(n:Nat)(cp:fZ 187 .pr n)(ce:∀m,m<=n->fZ 148 .ex m):fZ 186 .po (n+1):=by
 intro W cb Ys v s r hC hP
 have hx:=Sx.start hC
 clear hC
 simp only[P] at hP
 rcases aX hP with⟨f,q1,rfl⟩|⟨f1,s1,q1,hP⟩
 rotate_left
 ·have HP:=hid hP
  clear hP
  go_enter func186,ntmps186
  go_wp2_with ((go_at_call 187;(with_reducible refine(Sx.part hx cp q1).mono ?_);clear hx;rintro e w2 ⟨b1,rfl,hx⟩))
  have HX:=hid hx
  clear hx
  go_loopw [3] (λu wr=>∃b fo s' m,u=ptr b/\Sx W wr cb Ys v s' [(b,fo)] []/\P m (.wI fo) s'=some r/\m<=n) (λ_ wr=>Ys.length-NK wr cb)
  case atStart=>exact⟨b1,f1,s1,n,rfl,HX.out,HP.out,aL _⟩
  case round=>
   obtain⟨b,fo,s',m,rfl,hx,hP,hm⟩:=hrel
   clear HP HX q1
   have HM:=hid hx.left
   match m,hP with
   | 0,hP=>exact(iY hP).elim
   | m+1,hP=>
    simp only[P] at hP
    rcases bU hP with⟨f,h2,rfl⟩|⟨y2,h2,hP⟩
    rotate_left
    by_cases g2:aG y2.t=oz
    rw[if_pos g2] at hP
    replace hP:=dK h2 hP
    rcases aX hP with⟨f,q3,rfl⟩|⟨f3,s3,q3,hP⟩
    rotate_left
    rcases bK hP with⟨f,h4,rfl⟩|⟨y4,h4,g4,rfl⟩|⟨y4,h4,g4,hP⟩
    rotate_left
    rotate_left
    have qU:=hid hP
    clear hP
    focus
     go_wp2_with (first|((with_reducible (apply Calls.mono;first|exact Sx.gB hx h2 _ g2|exact Sx.take hx h2|exact Sx.want hx h4 _ g4));clear hx;rintro e w2 ⟨rfl,hx⟩)|(go_at_call 148;(with_reducible refine(Sx.part hx (ce m (by omega)) q3).mono ?_);clear hx;rintro e w2 ⟨b3,rfl,hx⟩)|(go_at_call 28;(with_reducible refine(Sx.at2 (b1:=b) (f1:=fo) (b2:=b3) (f2:=f3) hx 24 y2 (by simp) (by simp)).mono ?_);clear hx;rintro e w2 ⟨b0,rfl,hx⟩))
     go_roundw
     case rel=>exact⟨b0,_,_,m,rfl,hx.sub (by simp) (by simp),qU.out,by omega⟩
     case measure=>
      rw[hx.left,HM.out]
      have:=lT q3
      have:=iH h2
      have:=iH h4
      omega
    rw[if_neg g2] at hP
    obtain rfl:=aQ hP
    rotate_left
    all_goals (try clear hP)
    all_goals go_wp2_with (first|((with_reducible (apply Calls.mono;first|exact Sx.kV hx h2 _ _|exact Sx.dN hx (ce m (by omega)) q3|exact Sx.aN hx h4 _|exact Sx.fG hx h4 _ g4));rintro e w9 ⟨he,ht,hu⟩;(unfold kC fv at he);subst he)|((with_reducible (apply Calls.mono;first|exact Sx.gB hx h2 _ g2|exact Sx.take hx h2|exact Sx.iO hx h2 _ g2));clear hx;rintro e w2 ⟨rfl,hx⟩)|(go_at_call 148;(with_reducible refine(Sx.part hx (ce m (by omega)) q3).mono ?_);clear hx;rintro e w2 ⟨b3,rfl,hx⟩)|(go_at_call 28;(with_reducible refine(Sx.at2 (b1:=b) (f1:=fo) (b2:=b3) (f2:=f3) hx 24 y2 (by simp) (by simp)).mono ?_);clear hx;rintro e w2 ⟨b0,rfl,hx⟩))
    all_goals first|exact⟨rfl,rfl,ht,hu⟩|(go_ret;exact hx.res (aH ..))
 all_goals (try clear hP)
 all_goals first|(guard_target =~ Calls _ _ _ _ _;go_enter func186,ntmps186)|skip
 all_goals go_wp2_with ((go_at_call 187;(with_reducible refine(Sx.dN hx cp q1).mono ?_);rintro e w9 ⟨he,ht,hu⟩;(unfold kC fv at he);subst he))
 all_goals first|exact⟨rfl,rfl,ht,hu⟩|(go_ret;exact hx.res (aH ..))
theorem IX(n:Nat)(cn:fZ 188 .nm n)(cw:fZ 189 .wd n)(ce:fZ 148 .ex n):fZ 187 .pr (n+1):=by
 intro W cb Ys v s r hC hP
 have hx:=Sx.start hC
 clear hC
 simp only[P] at hP
 rcases bU hP with⟨f,h1,rfl⟩|⟨y1,h1,hP⟩
 rotate_left
 by_cases g4:y1.t.kind=4
 rw[if_pos g4] at hP
 have e4:(y1.t.kind==4)=true:=by simp[g4]
 clear g4
 replace hP:=dK h1 hP
 obtain rfl:=aQ hP
 rotate_left
 rw[if_neg g4] at hP
 have e4:(y1.t.kind==4)=false:=by simp[g4]
 by_cases g5:y1.t.kind=5
 rw[if_pos g5] at hP
 have e5:(y1.t.kind==5)=true:=by simp[g5]
 clear g5
 replace hP:=dK h1 hP
 obtain rfl:=aQ hP
 rotate_left
 rw[if_neg g5] at hP
 have e5:(y1.t.kind==5)=false:=by simp[g5]
 by_cases g6:y1.t.kind=6
 rw[if_pos g6] at hP
 have e6:(y1.t.kind==6)=true:=by simp[g6]
 clear g6
 replace hP:=dK h1 hP
 obtain rfl:=aQ hP
 rotate_left
 rw[if_neg g6] at hP
 have e6:(y1.t.kind==6)=false:=by simp[g6]
 by_cases g1:y1.t.kind=1
 rw[if_pos g1] at hP
 have e1:(y1.t.kind==1)=true:=by simp[g1]
 clear g1
 have hT:=hP
 rcases r with f|⟨fo,s1⟩
 rotate_left
 rotate_left
 rw[if_neg g1] at hP
 have e1:(y1.t.kind==1)=false:=by simp[g1]
 by_cases g2:y1.t.kind=2
 rw[if_pos g2] at hP
 have e2:(y1.t.kind==2)=true:=by simp[g2]
 clear g2
 have hT:=hP
 rcases r with f|⟨fo,s1⟩
 rotate_left
 rotate_left
 rw[if_neg g2] at hP
 have e2:(y1.t.kind==2)=false:=by simp[g2]
 rcases bK hP with⟨f,h2,rfl⟩|⟨y2,h2,g2,rfl⟩|⟨y2,h2,g2,hP⟩
 rotate_left
 rotate_left
 rcases aX hP with⟨f,q3,rfl⟩|⟨f3,s3,q3,hP⟩
 rotate_left
 rcases bK hP with⟨f,h4,rfl⟩|⟨y4,h4,g4,rfl⟩|⟨y4,h4,g4,hP⟩
 rotate_left
 rotate_left
 obtain rfl:=aQ hP
 rotate_left
 all_goals (try clear hP)
 all_goals first|(guard_target =~ Calls _ _ _ _ _;go_enter func187,ntmps187)|skip
 all_goals go_wp2_with (first|((with_reducible (apply Calls.mono;first|exact Sx.zB hx h1|exact Sx.zB (hx.alloc _) h1|exact Sx.dN hx cn hT|exact Sx.dN (hx.alloc _) cn hT|exact Sx.dN hx cw hT|exact Sx.dN (hx.alloc _) cw hT|exact Sx.aN hx h2 _|exact Sx.aN (hx.alloc _) h2 _|exact Sx.fG hx h2 _ g2|exact Sx.fG (hx.alloc _) h2 _ g2|exact Sx.dN hx ce q3|exact Sx.dN (hx.alloc _) ce q3|exact Sx.aN hx h4 _|exact Sx.aN (hx.alloc _) h4 _|exact Sx.fG hx h4 _ g4|exact Sx.fG (hx.alloc _) h4 _ g4));rintro e w9 ⟨he,ht,hu⟩;(unfold kC fv at he);subst he)|(go_at_call 29;(with_reducible refine(Sx.look hx h1).mono ?_);rintro e w2 ⟨he,hx2⟩;(unfold tv at he);subst he;(replace hx:=hx2);clear hx2)|((with_reducible (apply Calls.mono;first|exact Sx.take hx h1|exact Sx.take (hx.alloc _) h1|exact Sx.want hx h2 _ g2|exact Sx.want (hx.alloc _) h2 _ g2|exact Sx.want hx h4 _ g4|exact Sx.want (hx.alloc _) h4 _ g4));clear hx;rintro e w2 ⟨rfl,hx⟩)|((with_reducible (apply Calls.mono;first|exact Sx.QG  hx 26 y1  | exact Sx.QG  (hx.alloc _) 26 y1  | exact Sx.QG  hx 27 y1  | exact Sx.QG  (hx.alloc _) 27 y1  | exact Sx.QG  hx 28 y1  | exact Sx.QG  (hx.alloc _) 28 y1  | exact Sx.part hx cn hT|exact Sx.part (hx.alloc _) cn hT|exact Sx.part hx cw hT|exact Sx.part (hx.alloc _) cw hT));clear hx;rintro e w2 ⟨b0,rfl,hx⟩)|((with_reducible (apply Calls.mono;first|exact Sx.part hx ce q3|exact Sx.part (hx.alloc _) ce q3));clear hx;rintro e w2 ⟨b3,rfl,hx⟩))
 all_goals first|exact⟨rfl,rfl,ht,hu⟩|(go_ret;exact hx.res (aH ..))
end Go.Proofs.YtgchnkgolclmgaaGreatDoor.W.Tr

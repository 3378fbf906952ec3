import Derived.Test.YteffljnjmcjdfaaGreatDoorJM
open List renaming mem_cons_self → z0z
open Nat renaming le_refl → z1z
open Go.Proofs.Tryz
set_option maxRecDepth 1000000
set_option maxHeartbeats 8000000
namespace Go.Proofs.YteffljnjmcjdfaaGreatDoor.W.Tr
open Go.ChangeShapes Go.WideShapes Go.RowKit Go.Shelf
set_option linter.unusedVariables false
set_option linter.unusedSimpArgs false
theorem negation_c(n:Nat)(cn:Con 140 .ng n)(cc:Con 146 .cm n):Con 140 .ng (n+1):=by
 intro W cb Ys v s r hC hP
 have hx:=Sx.start hC
 clear hC
 simp only[P] at hP
 rcases look_inv hP with⟨f,h1,rfl⟩|⟨y1,h1,hP⟩
 rotate_left
 by_cases g1:fixedT y1.t=k_not
 rw[if_pos g1] at hP
 replace hP:=take_inv h1 hP
 rcases bind_inv hP with⟨f,q2,rfl⟩|⟨f2,s2,q2,hP⟩
 rotate_left
 obtain rfl:=pure_inv hP
 rotate_left
 rw[if_neg g1] at hP
 have hT:=hP
 rcases r with f|⟨fo,s1⟩
 rotate_left
 rotate_left
 all_goals (try clear hP)
 all_goals first|(guard_target =~ Calls _ _ _ _ _;go_enter func140,ntmps140)|skip
 all_goals go_wp2_with (first|((with_reducible (apply Calls.mono;first|exact Sx.seesE hx h1 _ _|exact Sx.partE hx cn q2|exact Sx.partE hx cc hT));rintro e w9 ⟨he,ht,hu⟩;(unfold pan fv at he);subst he)|((with_reducible (apply Calls.mono;first|exact Sx.sees1t hx h1 _ g1|exact Sx.take hx h1|exact Sx.sees1f hx h1 _ g1));clear hx;rintro e w2 ⟨rfl,hx⟩)|(go_at_call 140;(with_reducible refine(Sx.part hx cn q2).mono ?_);clear hx;rintro e w2 ⟨b2,rfl,hx⟩)|((with_reducible (apply Calls.mono;first|exact Sx.at1 (b1:=b2) (f1:=f2) hx 20 y1 (by simp)|exact Sx.part hx cc hT));clear hx;rintro e w2 ⟨b0,rfl,hx⟩))
 all_goals first|exact⟨rfl,rfl,ht,hu⟩|(go_ret;exact hx.res (z0z ..))
theorem unary_c(n:Nat)(cn:Con 153 .un n)(cc:Con 154 .po n):Con 153 .un (n+1):=by
 intro W cb Ys v s r hC hP
 have hx:=Sx.start hC
 clear hC
 simp only[P] at hP
 rcases look_inv hP with⟨f,h1,rfl⟩|⟨y1,h1,hP⟩
 rotate_left
 by_cases g1:fixedT y1.t=k_mns\/fixedT y1.t=k_tld
 rw[if_pos g1] at hP
 replace hP:=take_inv h1 hP
 rcases bind_inv hP with⟨f,q2,rfl⟩|⟨f2,s2,q2,hP⟩
 rotate_left
 obtain rfl:=pure_inv hP
 rotate_left
 rw[if_neg g1] at hP
 have hT:=hP
 rcases r with f|⟨fo,s1⟩
 rotate_left
 rotate_left
 all_goals (try clear hP)
 all_goals first|(guard_target =~ Calls _ _ _ _ _;go_enter func153,ntmps153)|skip
 all_goals go_wp2_with (first|((with_reducible (apply Calls.mono;first|exact Sx.seesE hx h1 _ _|exact Sx.partE hx cn q2|exact Sx.partE hx cc hT));rintro e w9 ⟨he,ht,hu⟩;(unfold pan fv at he);subst he)|((with_reducible (apply Calls.mono;first|exact Sx.sees2t hx h1 _ _ g1|exact Sx.take hx h1|exact Sx.sees2f hx h1 _ _ g1));clear hx;rintro e w2 ⟨rfl,hx⟩)|(go_at_call 153;(with_reducible refine(Sx.part hx cn q2).mono ?_);clear hx;rintro e w2 ⟨b2,rfl,hx⟩)|((with_reducible (apply Calls.mono;first|exact Sx.of1 (b1:=b2) (f1:=f2) hx 22 y1 (by simp)|exact Sx.part hx cc hT));clear hx;rintro e w2 ⟨b0,rfl,hx⟩))
 all_goals first|exact⟨rfl,rfl,ht,hu⟩|(go_ret;exact hx.res (z0z ..))
theorem word_c(n:Nat)  : Con 157 .wd (n+1):=by
 intro W cb Ys v s r hC hP
 have hx:=Sx.start hC
 clear hC
 simp only[P] at hP
 rcases look_inv hP with⟨f,h1,rfl⟩|⟨y1,h1,hP⟩
 rotate_left
 by_cases g1:fixedT y1.t=k_true
 rw[if_pos g1] at hP
 replace hP:=take_inv h1 hP
 obtain rfl:=pure_inv hP
 rotate_left
 rw[if_neg g1] at hP
 by_cases g2:fixedT y1.t=k_false
 rw[if_pos g2] at hP
 replace hP:=take_inv h1 hP
 obtain rfl:=pure_inv hP
 rotate_left
 rw[if_neg g2] at hP
 rcases want_inv hP with⟨f,h3,rfl⟩|⟨y3,h3,g3,rfl⟩|⟨y3,h3,g3,hP⟩
 rotate_left
 rotate_left
 obtain rfl:=pure_inv hP
 rotate_left
 all_goals (try clear hP)
 all_goals first|(guard_target =~ Calls _ _ _ _ _;go_enter func157,ntmps157)|skip
 all_goals go_wp2_with (first|((with_reducible (apply Calls.mono;first|exact Sx.seesE hx h1 _ _|exact Sx.wantE hx h3 _|exact Sx.wantB hx h3 _ g3));rintro e w9 ⟨he,ht,hu⟩;(unfold pan fv at he);subst he)|((with_reducible (apply Calls.mono;first|exact Sx.sees1t hx h1 _ g1|exact Sx.take hx h1|exact Sx.sees1f hx h1 _ g1|exact Sx.sees1t hx h1 _ g2|exact Sx.sees1f hx h1 _ g2|exact Sx.want hx h3 _ g3));clear hx;rintro e w2 ⟨rfl,hx⟩)|((with_reducible (apply Calls.mono;first|exact Sx.at0  hx 29 y1  | exact Sx.at0  hx 30 y1  | exact Sx.at0  hx 31 y3 ));clear hx;rintro e w2 ⟨b0,rfl,hx⟩))
 all_goals first|exact⟨rfl,rfl,ht,hu⟩|(go_ret;exact hx.res (z0z ..))
theorem comparison_c(n:Nat)(cb1:Con1 151 (.int .i64 1) (.bn 1) n):Con 146 .cm (n+1):=by
 intro W cb Ys v s r hC hP
 have hx:=Sx.start hC
 clear hC
 simp only[P] at hP
 rcases bind_inv hP with⟨f,q1,rfl⟩|⟨f1,s1,q1,hP⟩
 rotate_left
 rcases look_inv hP with⟨f,h2,rfl⟩|⟨y2,h2,hP⟩
 rotate_left
 have cz:=compares_c (fixedT y2.t)
 by_cases g2:comp (fixedT y2.t)=true
 rw[if_pos g2] at hP
 rw[g2] at cz
 replace hP:=take_inv h2 hP
 rcases bind_inv hP with⟨f,q3,rfl⟩|⟨f3,s3,q3,hP⟩
 rotate_left
 obtain rfl:=pure_inv hP
 rotate_left
 rw[if_neg g2] at hP
 rw[Bool.eq_false_iff.2 g2] at cz
 obtain rfl:=pure_inv hP
 rotate_left
 all_goals (try clear hP)
 all_goals first|(guard_target =~ Calls _ _ _ _ _;go_enter func146,ntmps146)|skip
 all_goals go_wp2_with (first|((with_reducible (apply Calls.mono;first|exact Sx.part1E hx cb1 q1|exact Sx.lookE hx h2|exact Sx.part1E hx cb1 q3));rintro e w9 ⟨he,ht,hu⟩;(unfold pan fv at he);subst he)|(go_at_call 151;(with_reducible refine(Sx.part1 hx cb1 q1).mono ?_);clear hx;rintro e w2 ⟨b1,rfl,hx⟩)|((with_reducible (apply Calls.mono;first|exact Sx.look hx h2|exact Sx.take hx h2));clear hx;rintro e w2 ⟨rfl,hx⟩)|(go_at_call 34;(with_reducible refine(fixed_c _ _ _).mono ?_);rintro e w2 ⟨rfl,b2⟩;(replace hx:=hx.below b2);clear b2)|(go_at_call 96;(with_reducible refine(cz _).mono ?_);rintro e w2 ⟨rfl,hw⟩;(have hw':=hw.symm);subst hw';clear hw)|(go_at_call 151;(with_reducible refine(Sx.part1 hx cb1 q3).mono ?_);clear hx;rintro e w2 ⟨b3,rfl,hx⟩)|(go_at_call 37;(with_reducible refine(Sx.of2 (b1:=b1) (f1:=f1) (b2:=b3) (f2:=f3) hx 21 y2 (by simp) (by simp)).mono ?_);clear hx;rintro e w2 ⟨b0,rfl,hx⟩))
 all_goals first|exact⟨rfl,rfl,ht,hu⟩|(go_ret;exact hx.res (z0z ..))
theorem conjunction_c(n:Nat)(cc:∀m,m<=n->Con 140 .ng m):Con 133 .cj (n+1):=by
 intro W cb Ys v s r hC hP
 have hx:=Sx.start hC
 clear hC
 simp only[P] at hP
 rcases bind_inv hP with⟨f,q1,rfl⟩|⟨f1,s1,q1,hP⟩
 rotate_left
 ·have HP:=hid hP
  clear hP
  go_enter func133,ntmps133
  go_wp2_with ((go_at_call 140;(with_reducible refine(Sx.part hx (cc n (z1z _)) q1).mono ?_);clear hx;rintro e w2 ⟨b1,rfl,hx⟩))
  have HX:=hid hx
  clear hx
  go_loopw [3] (λu wr=>∃b fo s' m,u=ptr b/\Sx W wr cb Ys v s' [(b,fo)] []/\P m (.cjT fo) s'=some r/\m<=n) (λ_ wr=>Ys.length-atW wr cb)
  case atStart=>exact⟨b1,f1,s1,n,rfl,HX.out,HP.out,z1z _⟩
  case round=>
   obtain⟨b,fo,s',m,rfl,hx,hP,hm⟩:=hrel
   clear HP HX q1
   have HM:=hid hx.left
   match m,hP with
   | 0,hP=>exact(P_zero hP).elim
   | m+1,hP=>
    simp only[P] at hP
    rcases look_inv hP with⟨f,h2,rfl⟩|⟨y2,h2,hP⟩
    rotate_left
    by_cases g2:fixedT y2.t=k_and
    rw[if_pos g2] at hP
    replace hP:=take_inv h2 hP
    rcases bind_inv hP with⟨f,q3,rfl⟩|⟨f3,s3,q3,hP⟩
    rotate_left
    have HP2:=hid hP
    clear hP
    focus
     go_wp2_with (first|((with_reducible (apply Calls.mono;first|exact Sx.sees1t hx h2 _ g2|exact Sx.take hx h2));clear hx;rintro e w2 ⟨rfl,hx⟩)|(go_at_call 140;(with_reducible refine(Sx.part hx (cc m (by omega)) q3).mono ?_);clear hx;rintro e w2 ⟨b3,rfl,hx⟩)|(go_at_call 20;(with_reducible refine(Sx.at2 (b1:=b) (f1:=fo) (b2:=b3) (f2:=f3) hx 19 y2 (by simp) (by simp)).mono ?_);clear hx;rintro e w2 ⟨b0,rfl,hx⟩))
     go_roundw
     case rel=>exact⟨b0,_,_,m,rfl,hx.sub (by simp) (by simp),HP2.out,by omega⟩
     case measure=>
      rw[hx.left,HM.out]
      have:=P_le q3
      have:=behind_lt h2
      omega
    rw[if_neg g2] at hP
    obtain rfl:=pure_inv hP
    rotate_left
    all_goals (try clear hP)
    all_goals go_wp2_with (first|((with_reducible (apply Calls.mono;first|exact Sx.seesE hx h2 _ _|exact Sx.partE hx (cc m (by omega)) q3));rintro e w9 ⟨he,ht,hu⟩;(unfold pan fv at he);subst he)|((with_reducible (apply Calls.mono;first|exact Sx.sees1t hx h2 _ g2|exact Sx.take hx h2|exact Sx.sees1f hx h2 _ g2));clear hx;rintro e w2 ⟨rfl,hx⟩))
    all_goals first|exact⟨rfl,rfl,ht,hu⟩|(go_ret;exact hx.res (z0z ..))
 all_goals (try clear hP)
 all_goals first|(guard_target =~ Calls _ _ _ _ _;go_enter func133,ntmps133)|skip
 all_goals go_wp2_with ((go_at_call 140;(with_reducible refine(Sx.partE hx (cc n (z1z _)) q1).mono ?_);rintro e w9 ⟨he,ht,hu⟩;(unfold pan fv at he);subst he))
 all_goals first|exact⟨rfl,rfl,ht,hu⟩|(go_ret;exact hx.res (z0z ..))
theorem expression_c(n:Nat)(cc:∀m,m<=n->Con 133 .cj m):Con 117 .ex (n+1):=by
 intro W cb Ys v s r hC hP
 have hx:=Sx.start hC
 clear hC
 simp only[P] at hP
 rcases bind_inv hP with⟨f,q1,rfl⟩|⟨f1,s1,q1,hP⟩
 rotate_left
 ·have HP:=hid hP
  clear hP
  go_enter func117,ntmps117
  go_wp2_with ((go_at_call 133;(with_reducible refine(Sx.part hx (cc n (z1z _)) q1).mono ?_);clear hx;rintro e w2 ⟨b1,rfl,hx⟩))
  have HX:=hid hx
  clear hx
  go_loopw [3] (λu wr=>∃b fo s' m,u=ptr b/\Sx W wr cb Ys v s' [(b,fo)] []/\P m (.exT fo) s'=some r/\m<=n) (λ_ wr=>Ys.length-atW wr cb)
  case atStart=>exact⟨b1,f1,s1,n,rfl,HX.out,HP.out,z1z _⟩
  case round=>
   obtain⟨b,fo,s',m,rfl,hx,hP,hm⟩:=hrel
   clear HP HX q1
   have HM:=hid hx.left
   match m,hP with
   | 0,hP=>exact(P_zero hP).elim
   | m+1,hP=>
    simp only[P] at hP
    rcases look_inv hP with⟨f,h2,rfl⟩|⟨y2,h2,hP⟩
    rotate_left
    by_cases g2:fixedT y2.t=k_or
    rw[if_pos g2] at hP
    replace hP:=take_inv h2 hP
    rcases bind_inv hP with⟨f,q3,rfl⟩|⟨f3,s3,q3,hP⟩
    rotate_left
    have HP2:=hid hP
    clear hP
    focus
     go_wp2_with (first|((with_reducible (apply Calls.mono;first|exact Sx.sees1t hx h2 _ g2|exact Sx.take hx h2));clear hx;rintro e w2 ⟨rfl,hx⟩)|(go_at_call 133;(with_reducible refine(Sx.part hx (cc m (by omega)) q3).mono ?_);clear hx;rintro e w2 ⟨b3,rfl,hx⟩)|(go_at_call 20;(with_reducible refine(Sx.at2 (b1:=b) (f1:=fo) (b2:=b3) (f2:=f3) hx 18 y2 (by simp) (by simp)).mono ?_);clear hx;rintro e w2 ⟨b0,rfl,hx⟩))
     go_roundw
     case rel=>exact⟨b0,_,_,m,rfl,hx.sub (by simp) (by simp),HP2.out,by omega⟩
     case measure=>
      rw[hx.left,HM.out]
      have:=P_le q3
      have:=behind_lt h2
      omega
    rw[if_neg g2] at hP
    obtain rfl:=pure_inv hP
    rotate_left
    all_goals (try clear hP)
    all_goals go_wp2_with (first|((with_reducible (apply Calls.mono;first|exact Sx.seesE hx h2 _ _|exact Sx.partE hx (cc m (by omega)) q3));rintro e w9 ⟨he,ht,hu⟩;(unfold pan fv at he);subst he)|((with_reducible (apply Calls.mono;first|exact Sx.sees1t hx h2 _ g2|exact Sx.take hx h2|exact Sx.sees1f hx h2 _ g2));clear hx;rintro e w2 ⟨rfl,hx⟩))
    all_goals first|exact⟨rfl,rfl,ht,hu⟩|(go_ret;exact hx.res (z0z ..))
 all_goals (try clear hP)
 all_goals first|(guard_target =~ Calls _ _ _ _ _;go_enter func117,ntmps117)|skip
 all_goals go_wp2_with ((go_at_call 133;(with_reducible refine(Sx.partE hx (cc n (z1z _)) q1).mono ?_);rintro e w9 ⟨he,ht,hu⟩;(unfold pan fv at he);subst he))
 all_goals first|exact⟨rfl,rfl,ht,hu⟩|(go_ret;exact hx.res (z0z ..))
theorem binary_c(n k:Nat)(hk:k<=7)(cu:Con 153 .un n)(cc:k<=6->∀m,m<=n->Con1 151 (.int .i64 ((k:Int)+1)) (.bn (k+1)) m):Con1 151 (.int .i64 (k:Int)) (.bn k) (n+1):=by
 intro W cb Ys v s r hC hP
 have hx:=Sx.start hC
 clear hC
 simp only[P] at hP
 have wk:IntKind.i64.wrap ((k:Int)+1)=(k:Int)+1:=by rw[IntKind.wrap_i64];omega
 by_cases h6:6<k
 rw[if_pos h6] at hP
 have h6':(k:Int)>6:=by omega
 clear h6
 have hT:=hP
 rcases r with f|⟨fo,s1⟩
 rotate_left
 rotate_left
 rw[if_neg h6] at hP
 replace cc:=cc (by omega)
 have h6':¬ (k:Int)>6:=by omega
 clear h6
 rcases bind_inv hP with⟨f,q1,rfl⟩|⟨f1,s1,q1,hP⟩
 rotate_left
 ·have HP:=hid hP
  clear hP
  go_enter func151,ntmps151
  go_wp2_with ((go_at_call 151;(with_reducible refine(Sx.part1 hx (cc n (z1z _)) q1).mono ?_);clear hx;rintro e w2 ⟨b1,rfl,hx⟩))
  have HX:=hid hx
  clear hx
  go_loopw [5] (λu wr=>∃b fo s' m,u=ptr b/\Sx W wr cb Ys v s' [(b,fo)] []/\P m (.bnT k fo) s'=some r/\m<=n) (λ_ wr=>Ys.length-atW wr cb)
  case atStart=>exact⟨b1,f1,s1,n,rfl,HX.out,HP.out,z1z _⟩
  case round=>
   obtain⟨b,fo,s',m,rfl,hx,hP,hm⟩:=hrel
   clear HP HX q1
   have HM:=hid hx.left
   match m,hP with
   | 0,hP=>exact(P_zero hP).elim
   | m+1,hP=>
    simp only[P] at hP
    rcases look_inv hP with⟨f,h2,rfl⟩|⟨y2,h2,hP⟩
    rotate_left
    have cz:=tight_c (fixedT y2.t)
    by_cases g2:tight (fixedT y2.t)=k
    rw[if_pos g2] at hP
    have e2:(((tight (fixedT y2.t):Nat):Int)==(k:Int))=true:=by simp[g2]
    clear g2
    replace hP:=take_inv h2 hP
    rcases bind_inv hP with⟨f,q3,rfl⟩|⟨f3,s3,q3,hP⟩
    rotate_left
    have HP2:=hid hP
    clear hP
    focus
     go_wp2_with (first|((with_reducible (apply Calls.mono;first|exact Sx.look hx h2|exact Sx.take hx h2));clear hx;rintro e w2 ⟨rfl,hx⟩)|(go_at_call 34;(with_reducible refine(fixed_c _ _ _).mono ?_);rintro e w2 ⟨rfl,b2⟩;(replace hx:=hx.below b2);clear b2)|(go_at_call 97;(with_reducible refine(cz _).mono ?_);rintro e w2 ⟨rfl,hw⟩;(have hw':=hw.symm);subst hw';clear hw cz)|(go_at_call 151;(with_reducible refine(Sx.part1 hx (cc m (by omega)) q3).mono ?_);clear hx;rintro e w2 ⟨b3,rfl,hx⟩)|(go_at_call 37;(with_reducible refine(Sx.of2 (b1:=b) (f1:=fo) (b2:=b3) (f2:=f3) hx 21 y2 (by simp) (by simp)).mono ?_);clear hx;rintro e w2 ⟨b0,rfl,hx⟩))
     go_roundw
     case rel=>exact⟨b0,_,_,m,rfl,hx.sub (by simp) (by simp),HP2.out,by omega⟩
     case measure=>
      rw[hx.left,HM.out]
      have:=P_le q3
      have:=behind_lt h2
      omega
    rw[if_neg g2] at hP
    have e2:(((tight (fixedT y2.t):Nat):Int)==(k:Int))=false:=by simp;omega
    clear g2
    obtain rfl:=pure_inv hP
    rotate_left
    all_goals (try clear hP)
    all_goals go_wp2_with (first|((with_reducible (apply Calls.mono;first|exact Sx.lookE hx h2|exact Sx.part1E hx (cc m (by omega)) q3));rintro e w9 ⟨he,ht,hu⟩;(unfold pan fv at he);subst he)|((with_reducible (apply Calls.mono;first|exact Sx.look hx h2|exact Sx.take hx h2));clear hx;rintro e w2 ⟨rfl,hx⟩)|(go_at_call 34;(with_reducible refine(fixed_c _ _ _).mono ?_);rintro e w2 ⟨rfl,b2⟩;(replace hx:=hx.below b2);clear b2)|(go_at_call 97;(with_reducible refine(cz _).mono ?_);rintro e w2 ⟨rfl,hw⟩;(have hw':=hw.symm);subst hw';clear hw cz))
    all_goals first|exact⟨rfl,rfl,ht,hu⟩|(go_ret;exact hx.res (z0z ..))
 all_goals (try clear hP)
 all_goals first|(guard_target =~ Calls _ _ _ _ _;go_enter func151,ntmps151)|skip
 all_goals go_wp2_with (first|((with_reducible (apply Calls.mono;first|exact Sx.partE hx cu hT|exact Sx.part1E hx (cc n (z1z _)) q1));rintro e w9 ⟨he,ht,hu⟩;(unfold pan fv at he);subst he)|(go_at_call 153;(with_reducible refine(Sx.part hx cu hT).mono ?_);clear hx;rintro e w2 ⟨b0,rfl,hx⟩))
 all_goals first|exact⟨rfl,rfl,ht,hu⟩|(go_ret;exact hx.res (z0z ..))
theorem postfix_c(n:Nat)(cp:Con 155 .pr n)(ce:∀m,m<=n->Con 117 .ex m):Con 154 .po (n+1):=by
 intro W cb Ys v s r hC hP
 have hx:=Sx.start hC
 clear hC
 simp only[P] at hP
 rcases bind_inv hP with⟨f,q1,rfl⟩|⟨f1,s1,q1,hP⟩
 rotate_left
 ·have HP:=hid hP
  clear hP
  go_enter func154,ntmps154
  go_wp2_with ((go_at_call 155;(with_reducible refine(Sx.part hx cp q1).mono ?_);clear hx;rintro e w2 ⟨b1,rfl,hx⟩))
  have HX:=hid hx
  clear hx
  go_loopw [3] (λu wr=>∃b fo s' m,u=ptr b/\Sx W wr cb Ys v s' [(b,fo)] []/\P m (.poT fo) s'=some r/\m<=n) (λ_ wr=>Ys.length-atW wr cb)
  case atStart=>exact⟨b1,f1,s1,n,rfl,HX.out,HP.out,z1z _⟩
  case round=>
   obtain⟨b,fo,s',m,rfl,hx,hP,hm⟩:=hrel
   clear HP HX q1
   have HM:=hid hx.left
   match m,hP with
   | 0,hP=>exact(P_zero hP).elim
   | m+1,hP=>
    simp only[P] at hP
    rcases look_inv hP with⟨f,h2,rfl⟩|⟨y2,h2,hP⟩
    rotate_left
    by_cases g2:fixedT y2.t=k_lbr
    rw[if_pos g2] at hP
    replace hP:=take_inv h2 hP
    rcases bind_inv hP with⟨f,q3,rfl⟩|⟨f3,s3,q3,hP⟩
    rotate_left
    rcases want_inv hP with⟨f,h4,rfl⟩|⟨y4,h4,g4,rfl⟩|⟨y4,h4,g4,hP⟩
    rotate_left
    rotate_left
    have HP2:=hid hP
    clear hP
    focus
     go_wp2_with (first|((with_reducible (apply Calls.mono;first|exact Sx.sees1t hx h2 _ g2|exact Sx.take hx h2|exact Sx.want hx h4 _ g4));clear hx;rintro e w2 ⟨rfl,hx⟩)|(go_at_call 117;(with_reducible refine(Sx.part hx (ce m (by omega)) q3).mono ?_);clear hx;rintro e w2 ⟨b3,rfl,hx⟩)|(go_at_call 20;(with_reducible refine(Sx.at2 (b1:=b) (f1:=fo) (b2:=b3) (f2:=f3) hx 24 y2 (by simp) (by simp)).mono ?_);clear hx;rintro e w2 ⟨b0,rfl,hx⟩))
     go_roundw
     case rel=>exact⟨b0,_,_,m,rfl,hx.sub (by simp) (by simp),HP2.out,by omega⟩
     case measure=>
      rw[hx.left,HM.out]
      have:=P_le q3
      have:=behind_lt h2
      have:=behind_lt h4
      omega
    rw[if_neg g2] at hP
    obtain rfl:=pure_inv hP
    rotate_left
    all_goals (try clear hP)
    all_goals go_wp2_with (first|((with_reducible (apply Calls.mono;first|exact Sx.seesE hx h2 _ _|exact Sx.partE hx (ce m (by omega)) q3|exact Sx.wantE hx h4 _|exact Sx.wantB hx h4 _ g4));rintro e w9 ⟨he,ht,hu⟩;(unfold pan fv at he);subst he)|((with_reducible (apply Calls.mono;first|exact Sx.sees1t hx h2 _ g2|exact Sx.take hx h2|exact Sx.sees1f hx h2 _ g2));clear hx;rintro e w2 ⟨rfl,hx⟩)|(go_at_call 117;(with_reducible refine(Sx.part hx (ce m (by omega)) q3).mono ?_);clear hx;rintro e w2 ⟨b3,rfl,hx⟩)|(go_at_call 20;(with_reducible refine(Sx.at2 (b1:=b) (f1:=fo) (b2:=b3) (f2:=f3) hx 24 y2 (by simp) (by simp)).mono ?_);clear hx;rintro e w2 ⟨b0,rfl,hx⟩))
    all_goals first|exact⟨rfl,rfl,ht,hu⟩|(go_ret;exact hx.res (z0z ..))
 all_goals (try clear hP)
 all_goals first|(guard_target =~ Calls _ _ _ _ _;go_enter func154,ntmps154)|skip
 all_goals go_wp2_with ((go_at_call 155;(with_reducible refine(Sx.partE hx cp q1).mono ?_);rintro e w9 ⟨he,ht,hu⟩;(unfold pan fv at he);subst he))
 all_goals first|exact⟨rfl,rfl,ht,hu⟩|(go_ret;exact hx.res (z0z ..))
theorem primary_c(n:Nat)(cn:Con 156 .nm n)(cw:Con 157 .wd n)(ce:Con 117 .ex n):Con 155 .pr (n+1):=by
 intro W cb Ys v s r hC hP
 have hx:=Sx.start hC
 clear hC
 simp only[P] at hP
 rcases look_inv hP with⟨f,h1,rfl⟩|⟨y1,h1,hP⟩
 rotate_left
 by_cases g4:y1.t.kind=4
 rw[if_pos g4] at hP
 have e4:(y1.t.kind==4)=true:=by simp[g4]
 clear g4
 replace hP:=take_inv h1 hP
 obtain rfl:=pure_inv hP
 rotate_left
 rw[if_neg g4] at hP
 have e4:(y1.t.kind==4)=false:=by simp[g4]
 by_cases g5:y1.t.kind=5
 rw[if_pos g5] at hP
 have e5:(y1.t.kind==5)=true:=by simp[g5]
 clear g5
 replace hP:=take_inv h1 hP
 obtain rfl:=pure_inv hP
 rotate_left
 rw[if_neg g5] at hP
 have e5:(y1.t.kind==5)=false:=by simp[g5]
 by_cases g6:y1.t.kind=6
 rw[if_pos g6] at hP
 have e6:(y1.t.kind==6)=true:=by simp[g6]
 clear g6
 replace hP:=take_inv h1 hP
 obtain rfl:=pure_inv hP
 rotate_left
 rw[if_neg g6] at hP
 have e6:(y1.t.kind==6)=false:=by simp[g6]
 by_cases g1:y1.t.kind=1
 rw[if_pos g1] at hP
 have e1:(y1.t.kind==1)=true:=by simp[g1]
 clear g1
 have hT:=hP
 rcases r with f|⟨fo,s1⟩
 rotate_left
 rotate_left
 rw[if_neg g1] at hP
 have e1:(y1.t.kind==1)=false:=by simp[g1]
 by_cases g2:y1.t.kind=2
 rw[if_pos g2] at hP
 have e2:(y1.t.kind==2)=true:=by simp[g2]
 clear g2
 have hT:=hP
 rcases r with f|⟨fo,s1⟩
 rotate_left
 rotate_left
 rw[if_neg g2] at hP
 have e2:(y1.t.kind==2)=false:=by simp[g2]
 rcases want_inv hP with⟨f,h2,rfl⟩|⟨y2,h2,g2,rfl⟩|⟨y2,h2,g2,hP⟩
 rotate_left
 rotate_left
 rcases bind_inv hP with⟨f,q3,rfl⟩|⟨f3,s3,q3,hP⟩
 rotate_left
 rcases want_inv hP with⟨f,h4,rfl⟩|⟨y4,h4,g4,rfl⟩|⟨y4,h4,g4,hP⟩
 rotate_left
 rotate_left
 obtain rfl:=pure_inv hP
 rotate_left
 all_goals (try clear hP)
 all_goals first|(guard_target =~ Calls _ _ _ _ _;go_enter func155,ntmps155)|skip
 all_goals go_wp2_with (first|((with_reducible (apply Calls.mono;first|exact Sx.lookE hx h1|exact Sx.lookE (hx.alloc _) h1|exact Sx.partE hx cn hT|exact Sx.partE (hx.alloc _) cn hT|exact Sx.partE hx cw hT|exact Sx.partE (hx.alloc _) cw hT|exact Sx.wantE hx h2 _|exact Sx.wantE (hx.alloc _) h2 _|exact Sx.wantB hx h2 _ g2|exact Sx.wantB (hx.alloc _) h2 _ g2|exact Sx.partE hx ce q3|exact Sx.partE (hx.alloc _) ce q3|exact Sx.wantE hx h4 _|exact Sx.wantE (hx.alloc _) h4 _|exact Sx.wantB hx h4 _ g4|exact Sx.wantB (hx.alloc _) h4 _ g4));rintro e w9 ⟨he,ht,hu⟩;(unfold pan fv at he);subst he)|(go_at_call 21;(with_reducible refine(Sx.look hx h1).mono ?_);rintro e w2 ⟨he,hx2⟩;(unfold tv at he);subst he;(replace hx:=hx2);clear hx2)|((with_reducible (apply Calls.mono;first|exact Sx.take hx h1|exact Sx.take (hx.alloc _) h1|exact Sx.want hx h2 _ g2|exact Sx.want (hx.alloc _) h2 _ g2|exact Sx.want hx h4 _ g4|exact Sx.want (hx.alloc _) h4 _ g4));clear hx;rintro e w2 ⟨rfl,hx⟩)|((with_reducible (apply Calls.mono;first|exact Sx.of0  hx 26 y1  | exact Sx.of0  (hx.alloc _) 26 y1  | exact Sx.of0  hx 27 y1  | exact Sx.of0  (hx.alloc _) 27 y1  | exact Sx.of0  hx 28 y1  | exact Sx.of0  (hx.alloc _) 28 y1  | exact Sx.part hx cn hT|exact Sx.part (hx.alloc _) cn hT|exact Sx.part hx cw hT|exact Sx.part (hx.alloc _) cw hT));clear hx;rintro e w2 ⟨b0,rfl,hx⟩)|((with_reducible (apply Calls.mono;first|exact Sx.part hx ce q3|exact Sx.part (hx.alloc _) ce q3));clear hx;rintro e w2 ⟨b3,rfl,hx⟩))
 all_goals first|exact⟨rfl,rfl,ht,hu⟩|(go_ret;exact hx.res (z0z ..))
end Go.Proofs.YteffljnjmcjdfaaGreatDoor.W.Tr

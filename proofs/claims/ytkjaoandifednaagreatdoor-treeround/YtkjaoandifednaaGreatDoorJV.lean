import Derived.Test.YtkjaoandifednaaGreatDoorJN
namespace Go.Proofs.YtkjaoandifednaaGreatDoor.W.Tr
open Go.ChangeShapes Go.WideShapes Go.RowKit Go.Shelf
set_option linter.unusedVariables false
set_option linter.unusedSimpArgs false
set_option maxRecDepth 100000 in
set_option maxHeartbeats 1000000 in
theorem conjunction_c (n:Nat) (cc:∀ m,m≤n→Con 148 .ng m):Con 140 .cj (n + 1):=by
 intro W cb Ys v s r hC hP
 have hx:=Sx.start hC
 clear hC
 simp only [P] at hP
 rcases bind_inv hP with ⟨f,q1,rfl⟩ | ⟨f1,s1,q1,hP⟩
 ·clear hP
  go_enter Tryz.func140,Tryz.ntmps140
  go_wp2_with ((go_at_call 148;(with_reducible refine (Sx.partE hx (cc n (Nat.le_refl _)) q1).mono ?_);rintro e w9 ⟨he,ht,hu⟩;(unfold pan fv at he);subst he))
  exact ⟨rfl,rfl,ht,hu⟩
 ·have HP:=hid hP
  clear hP
  go_enter Tryz.func140,Tryz.ntmps140
  go_wp2_with ((go_at_call 148;(with_reducible refine (Sx.part hx (cc n (Nat.le_refl _)) q1).mono ?_);rintro e w2 ⟨b1,rfl,hx2⟩;(replace hx:=hx2);clear hx2))
  have HX:=hid hx
  clear hx
  go_loopw [3] (fun u wr=>∃ b fo s' m,u=ptr b∧Sx W wr cb Ys v s' [(b,fo)] []∧P m (.cjT fo) s'=some r∧m≤n) (fun _ wr=>Ys.length - atW wr cb)
  case atStart=>exact ⟨b1,f1,s1,n,rfl,HX.out,HP.out,Nat.le_refl _⟩
  case round=>
   obtain ⟨b,fo,s',m,rfl,hx,hP,hm⟩:=hrel
   clear HP HX q1
   have HM:=hid hx.left
   match m,hP with
   | 0,hP=>exact (P_zero hP).elim
   | m + 1,hP=>
    simp only [P] at hP
    rcases look_inv hP with ⟨f,h2,rfl⟩ | ⟨y2,h2,hP⟩
    ·clear hP
     go_wp2_with ((go_at_call 27;(with_reducible refine (Sx.seesE hx h2 _ _).mono ?_);rintro e w9 ⟨he,ht,hu⟩;(unfold pan fv at he);subst he))
     exact ⟨rfl,rfl,ht,hu⟩
    ·by_cases g2:fixedT y2.t=k_and
     ·rw [if_pos g2] at hP
      replace hP:=take_inv h2 hP
      rcases bind_inv hP with ⟨f,q3,rfl⟩ | ⟨f3,s3,q3,hP⟩
      ·clear hP
       go_wp2_with (first | (go_at_call 27;(with_reducible refine (Sx.sees1t hx h2 _ g2).mono ?_);rintro e w2 ⟨rfl,hx2⟩;(replace hx:=hx2);clear hx2) | (go_at_call 72;(with_reducible refine (Sx.take hx h2).mono ?_);rintro e w2 ⟨rfl,hx2⟩;(replace hx:=hx2);clear hx2) | (go_at_call 148;(with_reducible refine (Sx.partE hx (cc m (by omega)) q3).mono ?_);rintro e w9 ⟨he,ht,hu⟩;(unfold pan fv at he);subst he))
       exact ⟨rfl,rfl,ht,hu⟩
      ·skip
       have HP2:=hid hP
       clear hP
       go_wp2_with (first | (go_at_call 27;(with_reducible refine (Sx.sees1t hx h2 _ g2).mono ?_);rintro e w2 ⟨rfl,hx2⟩;(replace hx:=hx2);clear hx2) | (go_at_call 72;(with_reducible refine (Sx.take hx h2).mono ?_);rintro e w2 ⟨rfl,hx2⟩;(replace hx:=hx2);clear hx2) | (go_at_call 148;(with_reducible refine (Sx.part hx (cc m (by omega)) q3).mono ?_);rintro e w2 ⟨b3,rfl,hx2⟩;(replace hx:=hx2);clear hx2) | (go_at_call 25;(with_reducible refine (Sx.at2 (b1:=b) (f1:=fo) (b2:=b3) (f2:=f3) hx 19 y2 (by simp) (by simp)).mono ?_);rintro e w2 ⟨b0,rfl,hx2⟩;(replace hx:=hx2);clear hx2))
       go_roundw
       case rel=>exact ⟨b0,_,_,m,rfl,hx.sub (by simp) (by simp),HP2.out,by omega⟩
       case measure=>
        rw [hx.left,HM.out]
        have:=P_le q3
        have:=behind_lt h2
        omega
     ·rw [if_neg g2] at hP
      obtain rfl:=pure_inv hP
      go_wp2_with ((go_at_call 27;(with_reducible refine (Sx.sees1f hx h2 _ g2).mono ?_);rintro e w2 ⟨rfl,hx2⟩;(replace hx:=hx2);clear hx2))
      go_ret
      exact hx.res (List.mem_cons_self ..)
set_option maxRecDepth 100000 in
set_option maxHeartbeats 1000000 in
theorem expression_c (n:Nat) (cc:∀ m,m≤n→Con 140 .cj m):Con 126 .ex (n + 1):=by
 intro W cb Ys v s r hC hP
 have hx:=Sx.start hC
 clear hC
 simp only [P] at hP
 rcases bind_inv hP with ⟨f,q1,rfl⟩ | ⟨f1,s1,q1,hP⟩
 ·clear hP
  go_enter Tryz.func126,Tryz.ntmps126
  go_wp2_with ((go_at_call 140;(with_reducible refine (Sx.partE hx (cc n (Nat.le_refl _)) q1).mono ?_);rintro e w9 ⟨he,ht,hu⟩;(unfold pan fv at he);subst he))
  exact ⟨rfl,rfl,ht,hu⟩
 ·have HP:=hid hP
  clear hP
  go_enter Tryz.func126,Tryz.ntmps126
  go_wp2_with ((go_at_call 140;(with_reducible refine (Sx.part hx (cc n (Nat.le_refl _)) q1).mono ?_);rintro e w2 ⟨b1,rfl,hx2⟩;(replace hx:=hx2);clear hx2))
  have HX:=hid hx
  clear hx
  go_loopw [3] (fun u wr=>∃ b fo s' m,u=ptr b∧Sx W wr cb Ys v s' [(b,fo)] []∧P m (.exT fo) s'=some r∧m≤n) (fun _ wr=>Ys.length - atW wr cb)
  case atStart=>exact ⟨b1,f1,s1,n,rfl,HX.out,HP.out,Nat.le_refl _⟩
  case round=>
   obtain ⟨b,fo,s',m,rfl,hx,hP,hm⟩:=hrel
   clear HP HX q1
   have HM:=hid hx.left
   match m,hP with
   | 0,hP=>exact (P_zero hP).elim
   | m + 1,hP=>
    simp only [P] at hP
    rcases look_inv hP with ⟨f,h2,rfl⟩ | ⟨y2,h2,hP⟩
    ·clear hP
     go_wp2_with ((go_at_call 27;(with_reducible refine (Sx.seesE hx h2 _ _).mono ?_);rintro e w9 ⟨he,ht,hu⟩;(unfold pan fv at he);subst he))
     exact ⟨rfl,rfl,ht,hu⟩
    ·by_cases g2:fixedT y2.t=k_or
     ·rw [if_pos g2] at hP
      replace hP:=take_inv h2 hP
      rcases bind_inv hP with ⟨f,q3,rfl⟩ | ⟨f3,s3,q3,hP⟩
      ·clear hP
       go_wp2_with (first | (go_at_call 27;(with_reducible refine (Sx.sees1t hx h2 _ g2).mono ?_);rintro e w2 ⟨rfl,hx2⟩;(replace hx:=hx2);clear hx2) | (go_at_call 72;(with_reducible refine (Sx.take hx h2).mono ?_);rintro e w2 ⟨rfl,hx2⟩;(replace hx:=hx2);clear hx2) | (go_at_call 140;(with_reducible refine (Sx.partE hx (cc m (by omega)) q3).mono ?_);rintro e w9 ⟨he,ht,hu⟩;(unfold pan fv at he);subst he))
       exact ⟨rfl,rfl,ht,hu⟩
      ·skip
       have HP2:=hid hP
       clear hP
       go_wp2_with (first | (go_at_call 27;(with_reducible refine (Sx.sees1t hx h2 _ g2).mono ?_);rintro e w2 ⟨rfl,hx2⟩;(replace hx:=hx2);clear hx2) | (go_at_call 72;(with_reducible refine (Sx.take hx h2).mono ?_);rintro e w2 ⟨rfl,hx2⟩;(replace hx:=hx2);clear hx2) | (go_at_call 140;(with_reducible refine (Sx.part hx (cc m (by omega)) q3).mono ?_);rintro e w2 ⟨b3,rfl,hx2⟩;(replace hx:=hx2);clear hx2) | (go_at_call 25;(with_reducible refine (Sx.at2 (b1:=b) (f1:=fo) (b2:=b3) (f2:=f3) hx 18 y2 (by simp) (by simp)).mono ?_);rintro e w2 ⟨b0,rfl,hx2⟩;(replace hx:=hx2);clear hx2))
       go_roundw
       case rel=>exact ⟨b0,_,_,m,rfl,hx.sub (by simp) (by simp),HP2.out,by omega⟩
       case measure=>
        rw [hx.left,HM.out]
        have:=P_le q3
        have:=behind_lt h2
        omega
     ·rw [if_neg g2] at hP
      obtain rfl:=pure_inv hP
      go_wp2_with ((go_at_call 27;(with_reducible refine (Sx.sees1f hx h2 _ g2).mono ?_);rintro e w2 ⟨rfl,hx2⟩;(replace hx:=hx2);clear hx2))
      go_ret
      exact hx.res (List.mem_cons_self ..)
set_option maxRecDepth 100000 in
set_option maxHeartbeats 1000000 in
theorem binary_c (n k:Nat) (hk:k≤7) (cu:Con 156 .un n) (cc:k≤6→∀ m,m≤n→Con1 155 (.int .i64 ((k:Int) + 1)) (.bn (k + 1)) m):Con1 155 (.int .i64 (k:Int)) (.bn k) (n + 1):=by
 intro W cb Ys v s r hC hP
 have hx:=Sx.start hC
 clear hC
 simp only [P] at hP
 have wk:IntKind.i64.wrap ((k:Int) + 1)=(k:Int) + 1:=by rw [IntKind.wrap_i64];omega
 by_cases h6:6 < k
 ·rw [if_pos h6] at hP
  have h6':(k:Int) > 6:=by omega
  clear h6
  match r,hP with
  | .error f,hP=>
   go_enter Tryz.func155,Tryz.ntmps155
   go_wp2_with ((go_at_call 156;(with_reducible refine (Sx.partE hx cu hP).mono ?_);rintro e w9 ⟨he,ht,hu⟩;(unfold pan fv at he);subst he))
   exact ⟨rfl,rfl,ht,hu⟩
  | .ok (fo,s1),hP=>
   go_enter Tryz.func155,Tryz.ntmps155
   go_wp2_with ((go_at_call 156;(with_reducible refine (Sx.part hx cu hP).mono ?_);rintro e w2 ⟨b0,rfl,hx2⟩;(replace hx:=hx2);clear hx2))
   go_ret
   exact hx.res (List.mem_cons_self ..)
 ·rw [if_neg h6] at hP
  replace cc:=cc (by omega)
  have h6':¬ (k:Int) > 6:=by omega
  clear h6
  rcases bind_inv hP with ⟨f,q1,rfl⟩ | ⟨f1,s1,q1,hP⟩
  ·clear hP
   go_enter Tryz.func155,Tryz.ntmps155
   go_wp2_with ((go_at_call 155;(with_reducible refine (Sx.part1E hx (cc n (Nat.le_refl _)) q1).mono ?_);rintro e w9 ⟨he,ht,hu⟩;(unfold pan fv at he);subst he))
   exact ⟨rfl,rfl,ht,hu⟩
  ·have HP:=hid hP
   clear hP
   go_enter Tryz.func155,Tryz.ntmps155
   go_wp2_with ((go_at_call 155;(with_reducible refine (Sx.part1 hx (cc n (Nat.le_refl _)) q1).mono ?_);rintro e w2 ⟨b1,rfl,hx2⟩;(replace hx:=hx2);clear hx2))
   have HX:=hid hx
   clear hx
   go_loopw [5] (fun u wr=>∃ b fo s' m,u=ptr b∧Sx W wr cb Ys v s' [(b,fo)] []∧P m (.bnT k fo) s'=some r∧m≤n) (fun _ wr=>Ys.length - atW wr cb)
   case atStart=>exact ⟨b1,f1,s1,n,rfl,HX.out,HP.out,Nat.le_refl _⟩
   case round=>
    obtain ⟨b,fo,s',m,rfl,hx,hP,hm⟩:=hrel
    clear HP HX q1
    have HM:=hid hx.left
    match m,hP with
    | 0,hP=>exact (P_zero hP).elim
    | m + 1,hP=>
     simp only [P] at hP
     rcases look_inv hP with ⟨f,h2,rfl⟩ | ⟨y2,h2,hP⟩
     ·clear hP
      go_wp2_with ((go_at_call 26;(with_reducible refine (Sx.lookE hx h2).mono ?_);rintro e w9 ⟨he,ht,hu⟩;(unfold pan fv at he);subst he))
      exact ⟨rfl,rfl,ht,hu⟩
     ·have cz:=tight_c (fixedT y2.t)
      by_cases g2:tight (fixedT y2.t)=k
      ·rw [if_pos g2] at hP
       have e2:(((tight (fixedT y2.t):Nat):Int) == (k:Int))=true:=by simp [g2]
       clear g2
       replace hP:=take_inv h2 hP
       rcases bind_inv hP with ⟨f,q3,rfl⟩ | ⟨f3,s3,q3,hP⟩
       ·clear hP
        go_wp2_with (first | (go_at_call 26;(with_reducible refine (Sx.look hx h2).mono ?_);rintro e w2 ⟨rfl,hx2⟩;(replace hx:=hx2);clear hx2) | (go_at_call 46;(with_reducible refine (fixed_c _ _ _).mono ?_);rintro e w2 ⟨rfl,b2⟩;(replace hx:=hx.below b2);clear b2) | (go_at_call 76;(with_reducible refine (cz _).mono ?_);rintro e w2 ⟨rfl,hw⟩;(have hw':=hw.symm);subst hw';clear hw cz) | (go_at_call 72;(with_reducible refine (Sx.take hx h2).mono ?_);rintro e w2 ⟨rfl,hx2⟩;(replace hx:=hx2);clear hx2) | (go_at_call 155;(with_reducible refine (Sx.part1E hx (cc m (by omega)) q3).mono ?_);rintro e w9 ⟨he,ht,hu⟩;(unfold pan fv at he);subst he))
        exact ⟨rfl,rfl,ht,hu⟩
       ·skip
        have HP2:=hid hP
        clear hP
        go_wp2_with (first | (go_at_call 26;(with_reducible refine (Sx.look hx h2).mono ?_);rintro e w2 ⟨rfl,hx2⟩;(replace hx:=hx2);clear hx2) | (go_at_call 46;(with_reducible refine (fixed_c _ _ _).mono ?_);rintro e w2 ⟨rfl,b2⟩;(replace hx:=hx.below b2);clear b2) | (go_at_call 76;(with_reducible refine (cz _).mono ?_);rintro e w2 ⟨rfl,hw⟩;(have hw':=hw.symm);subst hw';clear hw cz) | (go_at_call 72;(with_reducible refine (Sx.take hx h2).mono ?_);rintro e w2 ⟨rfl,hx2⟩;(replace hx:=hx2);clear hx2) | (go_at_call 155;(with_reducible refine (Sx.part1 hx (cc m (by omega)) q3).mono ?_);rintro e w2 ⟨b3,rfl,hx2⟩;(replace hx:=hx2);clear hx2) | (go_at_call 49;(with_reducible refine (Sx.of2 (b1:=b) (f1:=fo) (b2:=b3) (f2:=f3) hx 21 y2 (by simp) (by simp)).mono ?_);rintro e w2 ⟨b0,rfl,hx2⟩;(replace hx:=hx2);clear hx2))
        go_roundw
        case rel=>exact ⟨b0,_,_,m,rfl,hx.sub (by simp) (by simp),HP2.out,by omega⟩
        case measure=>
         rw [hx.left,HM.out]
         have:=P_le q3
         have:=behind_lt h2
         omega
      ·rw [if_neg g2] at hP
       have e2:(((tight (fixedT y2.t):Nat):Int) == (k:Int))=false:=by simp;omega
       clear g2
       obtain rfl:=pure_inv hP
       go_wp2_with (first | (go_at_call 26;(with_reducible refine (Sx.look hx h2).mono ?_);rintro e w2 ⟨rfl,hx2⟩;(replace hx:=hx2);clear hx2) | (go_at_call 46;(with_reducible refine (fixed_c _ _ _).mono ?_);rintro e w2 ⟨rfl,b2⟩;(replace hx:=hx.below b2);clear b2) | (go_at_call 76;(with_reducible refine (cz _).mono ?_);rintro e w2 ⟨rfl,hw⟩;(have hw':=hw.symm);subst hw';clear hw cz))
       go_ret
       exact hx.res (List.mem_cons_self ..)
set_option maxRecDepth 100000 in
set_option maxHeartbeats 1000000 in
theorem postfix_c (n:Nat) (cp:Con 158 .pr n) (ce:∀ m,m≤n→Con 126 .ex m):Con 157 .po (n + 1):=by
 intro W cb Ys v s r hC hP
 have hx:=Sx.start hC
 clear hC
 simp only [P] at hP
 rcases bind_inv hP with ⟨f,q1,rfl⟩ | ⟨f1,s1,q1,hP⟩
 ·clear hP
  go_enter Tryz.func157,Tryz.ntmps157
  go_wp2_with ((go_at_call 158;(with_reducible refine (Sx.partE hx cp q1).mono ?_);rintro e w9 ⟨he,ht,hu⟩;(unfold pan fv at he);subst he))
  exact ⟨rfl,rfl,ht,hu⟩
 ·have HP:=hid hP
  clear hP
  go_enter Tryz.func157,Tryz.ntmps157
  go_wp2_with ((go_at_call 158;(with_reducible refine (Sx.part hx cp q1).mono ?_);rintro e w2 ⟨b1,rfl,hx2⟩;(replace hx:=hx2);clear hx2))
  have HX:=hid hx
  clear hx
  go_loopw [3] (fun u wr=>∃ b fo s' m,u=ptr b∧Sx W wr cb Ys v s' [(b,fo)] []∧P m (.poT fo) s'=some r∧m≤n) (fun _ wr=>Ys.length - atW wr cb)
  case atStart=>exact ⟨b1,f1,s1,n,rfl,HX.out,HP.out,Nat.le_refl _⟩
  case round=>
   obtain ⟨b,fo,s',m,rfl,hx,hP,hm⟩:=hrel
   clear HP HX q1
   have HM:=hid hx.left
   match m,hP with
   | 0,hP=>exact (P_zero hP).elim
   | m + 1,hP=>
    simp only [P] at hP
    rcases look_inv hP with ⟨f,h2,rfl⟩ | ⟨y2,h2,hP⟩
    ·clear hP
     go_wp2_with ((go_at_call 27;(with_reducible refine (Sx.seesE hx h2 _ _).mono ?_);rintro e w9 ⟨he,ht,hu⟩;(unfold pan fv at he);subst he))
     exact ⟨rfl,rfl,ht,hu⟩
    ·by_cases g2:fixedT y2.t=k_lbr
     ·rw [if_pos g2] at hP
      replace hP:=take_inv h2 hP
      rcases bind_inv hP with ⟨f,q3,rfl⟩ | ⟨f3,s3,q3,hP⟩
      ·clear hP
       go_wp2_with (first | (go_at_call 27;(with_reducible refine (Sx.sees1t hx h2 _ g2).mono ?_);rintro e w2 ⟨rfl,hx2⟩;(replace hx:=hx2);clear hx2) | (go_at_call 72;(with_reducible refine (Sx.take hx h2).mono ?_);rintro e w2 ⟨rfl,hx2⟩;(replace hx:=hx2);clear hx2) | (go_at_call 126;(with_reducible refine (Sx.partE hx (ce m (by omega)) q3).mono ?_);rintro e w9 ⟨he,ht,hu⟩;(unfold pan fv at he);subst he))
       exact ⟨rfl,rfl,ht,hu⟩
      ·skip
       rcases want_inv hP with ⟨f,h4,rfl⟩ | ⟨y4,h4,g4,rfl⟩ | ⟨y4,h4,g4,hP⟩
       ·clear hP
        go_wp2_with (first | (go_at_call 27;(with_reducible refine (Sx.sees1t hx h2 _ g2).mono ?_);rintro e w2 ⟨rfl,hx2⟩;(replace hx:=hx2);clear hx2) | (go_at_call 72;(with_reducible refine (Sx.take hx h2).mono ?_);rintro e w2 ⟨rfl,hx2⟩;(replace hx:=hx2);clear hx2) | (go_at_call 126;(with_reducible refine (Sx.part hx (ce m (by omega)) q3).mono ?_);rintro e w2 ⟨b3,rfl,hx2⟩;(replace hx:=hx2);clear hx2) | (go_at_call 25;(with_reducible refine (Sx.at2 (b1:=b) (f1:=fo) (b2:=b3) (f2:=f3) hx 24 y2 (by simp) (by simp)).mono ?_);rintro e w2 ⟨b0,rfl,hx2⟩;(replace hx:=hx2);clear hx2) | (go_at_call 47;(with_reducible refine (Sx.wantE hx h4 _).mono ?_);rintro e w9 ⟨he,ht,hu⟩;(unfold pan fv at he);subst he))
        exact ⟨rfl,rfl,ht,hu⟩
       ·clear hP
        go_wp2_with (first | (go_at_call 27;(with_reducible refine (Sx.sees1t hx h2 _ g2).mono ?_);rintro e w2 ⟨rfl,hx2⟩;(replace hx:=hx2);clear hx2) | (go_at_call 72;(with_reducible refine (Sx.take hx h2).mono ?_);rintro e w2 ⟨rfl,hx2⟩;(replace hx:=hx2);clear hx2) | (go_at_call 126;(with_reducible refine (Sx.part hx (ce m (by omega)) q3).mono ?_);rintro e w2 ⟨b3,rfl,hx2⟩;(replace hx:=hx2);clear hx2) | (go_at_call 25;(with_reducible refine (Sx.at2 (b1:=b) (f1:=fo) (b2:=b3) (f2:=f3) hx 24 y2 (by simp) (by simp)).mono ?_);rintro e w2 ⟨b0,rfl,hx2⟩;(replace hx:=hx2);clear hx2) | (go_at_call 47;(with_reducible refine (Sx.wantB hx h4 _ g4).mono ?_);rintro e w9 ⟨he,ht,hu⟩;(unfold pan fv at he);subst he))
        exact ⟨rfl,rfl,ht,hu⟩
       ·skip
        have HP2:=hid hP
        clear hP
        go_wp2_with (first | (go_at_call 27;(with_reducible refine (Sx.sees1t hx h2 _ g2).mono ?_);rintro e w2 ⟨rfl,hx2⟩;(replace hx:=hx2);clear hx2) | (go_at_call 72;(with_reducible refine (Sx.take hx h2).mono ?_);rintro e w2 ⟨rfl,hx2⟩;(replace hx:=hx2);clear hx2) | (go_at_call 126;(with_reducible refine (Sx.part hx (ce m (by omega)) q3).mono ?_);rintro e w2 ⟨b3,rfl,hx2⟩;(replace hx:=hx2);clear hx2) | (go_at_call 25;(with_reducible refine (Sx.at2 (b1:=b) (f1:=fo) (b2:=b3) (f2:=f3) hx 24 y2 (by simp) (by simp)).mono ?_);rintro e w2 ⟨b0,rfl,hx2⟩;(replace hx:=hx2);clear hx2) | (go_at_call 47;(with_reducible refine (Sx.want hx h4 _ g4).mono ?_);rintro e w2 ⟨rfl,hx2⟩;(replace hx:=hx2);clear hx2))
        go_roundw
        case rel=>exact ⟨b0,_,_,m,rfl,hx.sub (by simp) (by simp),HP2.out,by omega⟩
        case measure=>
         rw [hx.left,HM.out]
         have:=P_le q3
         have:=behind_lt h2
         have:=behind_lt h4
         omega
     ·rw [if_neg g2] at hP
      obtain rfl:=pure_inv hP
      go_wp2_with ((go_at_call 27;(with_reducible refine (Sx.sees1f hx h2 _ g2).mono ?_);rintro e w2 ⟨rfl,hx2⟩;(replace hx:=hx2);clear hx2))
      go_ret
      exact hx.res (List.mem_cons_self ..)
set_option maxRecDepth 100000 in
set_option maxHeartbeats 1000000 in
theorem primary_c (n:Nat) (cn:Con 159 .nm n) (cw:Con 160 .wd n) (ce:Con 126 .ex n):Con 158 .pr (n + 1):=by
 intro W cb Ys v s r hC hP
 have hx:=Sx.start hC
 clear hC
 simp only [P] at hP
 rcases look_inv hP with ⟨f,h1,rfl⟩ | ⟨y1,h1,hP⟩
 ·clear hP
  go_enter Tryz.func158,Tryz.ntmps158
  go_wp2_with ((go_at_call 26;(first | (with_reducible refine (Sx.lookE hx h1).mono ?_) | (with_reducible refine (Sx.lookE (hx.alloc _) h1).mono ?_));rintro e w9 ⟨he,ht,hu⟩;(unfold pan fv at he);subst he))
  exact ⟨rfl,rfl,ht,hu⟩
 ·skip
  by_cases g4:y1.t.kind=4
  ·rw [if_pos g4] at hP
   have e4:(y1.t.kind == 4)=true:=by simp [g4]
   clear g4
   replace hP:=take_inv h1 hP
   obtain rfl:=pure_inv hP
   go_enter Tryz.func158,Tryz.ntmps158
   go_wp2_with (first | (go_at_call 26;(with_reducible refine (Sx.look hx h1).mono ?_);rintro e w2 ⟨he,hx2⟩;(unfold tv at he);subst he;(replace hx:=hx2);clear hx2) | (go_at_call 72;(first | (with_reducible refine (Sx.take hx h1).mono ?_) | (with_reducible refine (Sx.take (hx.alloc _) h1).mono ?_));rintro e w2 ⟨rfl,hx2⟩;(replace hx:=hx2);clear hx2) | (go_at_call 49;(first | (with_reducible refine (Sx.of0  hx 26 y1 ).mono ?_) | (with_reducible refine (Sx.of0  (hx.alloc _) 26 y1 ).mono ?_));rintro e w2 ⟨b0,rfl,hx2⟩;(replace hx:=hx2);clear hx2))
   go_ret
   exact hx.res (List.mem_cons_self ..)
  rw [if_neg g4] at hP
  have e4:(y1.t.kind == 4)=false:=by simp [g4]
  by_cases g5:y1.t.kind=5
  ·rw [if_pos g5] at hP
   have e5:(y1.t.kind == 5)=true:=by simp [g5]
   clear g5
   replace hP:=take_inv h1 hP
   obtain rfl:=pure_inv hP
   go_enter Tryz.func158,Tryz.ntmps158
   go_wp2_with (first | (go_at_call 26;(with_reducible refine (Sx.look hx h1).mono ?_);rintro e w2 ⟨he,hx2⟩;(unfold tv at he);subst he;(replace hx:=hx2);clear hx2) | (go_at_call 72;(first | (with_reducible refine (Sx.take hx h1).mono ?_) | (with_reducible refine (Sx.take (hx.alloc _) h1).mono ?_));rintro e w2 ⟨rfl,hx2⟩;(replace hx:=hx2);clear hx2) | (go_at_call 49;(first | (with_reducible refine (Sx.of0  hx 27 y1 ).mono ?_) | (with_reducible refine (Sx.of0  (hx.alloc _) 27 y1 ).mono ?_));rintro e w2 ⟨b0,rfl,hx2⟩;(replace hx:=hx2);clear hx2))
   go_ret
   exact hx.res (List.mem_cons_self ..)
  rw [if_neg g5] at hP
  have e5:(y1.t.kind == 5)=false:=by simp [g5]
  by_cases g6:y1.t.kind=6
  ·rw [if_pos g6] at hP
   have e6:(y1.t.kind == 6)=true:=by simp [g6]
   clear g6
   replace hP:=take_inv h1 hP
   obtain rfl:=pure_inv hP
   go_enter Tryz.func158,Tryz.ntmps158
   go_wp2_with (first | (go_at_call 26;(with_reducible refine (Sx.look hx h1).mono ?_);rintro e w2 ⟨he,hx2⟩;(unfold tv at he);subst he;(replace hx:=hx2);clear hx2) | (go_at_call 72;(first | (with_reducible refine (Sx.take hx h1).mono ?_) | (with_reducible refine (Sx.take (hx.alloc _) h1).mono ?_));rintro e w2 ⟨rfl,hx2⟩;(replace hx:=hx2);clear hx2) | (go_at_call 49;(first | (with_reducible refine (Sx.of0  hx 28 y1 ).mono ?_) | (with_reducible refine (Sx.of0  (hx.alloc _) 28 y1 ).mono ?_));rintro e w2 ⟨b0,rfl,hx2⟩;(replace hx:=hx2);clear hx2))
   go_ret
   exact hx.res (List.mem_cons_self ..)
  rw [if_neg g6] at hP
  have e6:(y1.t.kind == 6)=false:=by simp [g6]
  by_cases g1:y1.t.kind=1
  ·rw [if_pos g1] at hP
   have e1:(y1.t.kind == 1)=true:=by simp [g1]
   clear g1
   match r,hP with
   | .error f,hP=>
    go_enter Tryz.func158,Tryz.ntmps158
    go_wp2_with (first | (go_at_call 26;(with_reducible refine (Sx.look hx h1).mono ?_);rintro e w2 ⟨he,hx2⟩;(unfold tv at he);subst he;(replace hx:=hx2);clear hx2) | (go_at_call 159;(first | (with_reducible refine (Sx.partE hx cn hP).mono ?_) | (with_reducible refine (Sx.partE (hx.alloc _) cn hP).mono ?_));rintro e w9 ⟨he,ht,hu⟩;(unfold pan fv at he);subst he))
    exact ⟨rfl,rfl,ht,hu⟩
   | .ok (fo,s1),hP=>
    go_enter Tryz.func158,Tryz.ntmps158
    go_wp2_with (first | (go_at_call 26;(with_reducible refine (Sx.look hx h1).mono ?_);rintro e w2 ⟨he,hx2⟩;(unfold tv at he);subst he;(replace hx:=hx2);clear hx2) | (go_at_call 159;(first | (with_reducible refine (Sx.part hx cn hP).mono ?_) | (with_reducible refine (Sx.part (hx.alloc _) cn hP).mono ?_));rintro e w2 ⟨b0,rfl,hx2⟩;(replace hx:=hx2);clear hx2))
    go_ret
    exact hx.res (List.mem_cons_self ..)
  rw [if_neg g1] at hP
  have e1:(y1.t.kind == 1)=false:=by simp [g1]
  by_cases g2:y1.t.kind=2
  ·rw [if_pos g2] at hP
   have e2:(y1.t.kind == 2)=true:=by simp [g2]
   clear g2
   match r,hP with
   | .error f,hP=>
    go_enter Tryz.func158,Tryz.ntmps158
    go_wp2_with (first | (go_at_call 26;(with_reducible refine (Sx.look hx h1).mono ?_);rintro e w2 ⟨he,hx2⟩;(unfold tv at he);subst he;(replace hx:=hx2);clear hx2) | (go_at_call 160;(first | (with_reducible refine (Sx.partE hx cw hP).mono ?_) | (with_reducible refine (Sx.partE (hx.alloc _) cw hP).mono ?_));rintro e w9 ⟨he,ht,hu⟩;(unfold pan fv at he);subst he))
    exact ⟨rfl,rfl,ht,hu⟩
   | .ok (fo,s1),hP=>
    go_enter Tryz.func158,Tryz.ntmps158
    go_wp2_with (first | (go_at_call 26;(with_reducible refine (Sx.look hx h1).mono ?_);rintro e w2 ⟨he,hx2⟩;(unfold tv at he);subst he;(replace hx:=hx2);clear hx2) | (go_at_call 160;(first | (with_reducible refine (Sx.part hx cw hP).mono ?_) | (with_reducible refine (Sx.part (hx.alloc _) cw hP).mono ?_));rintro e w2 ⟨b0,rfl,hx2⟩;(replace hx:=hx2);clear hx2))
    go_ret
    exact hx.res (List.mem_cons_self ..)
  rw [if_neg g2] at hP
  have e2:(y1.t.kind == 2)=false:=by simp [g2]
  rcases want_inv hP with ⟨f,h2,rfl⟩ | ⟨y2,h2,g2,rfl⟩ | ⟨y2,h2,g2,hP⟩
  ·clear hP
   go_enter Tryz.func158,Tryz.ntmps158
   go_wp2_with (first | (go_at_call 26;(with_reducible refine (Sx.look hx h1).mono ?_);rintro e w2 ⟨he,hx2⟩;(unfold tv at he);subst he;(replace hx:=hx2);clear hx2) | (go_at_call 47;(first | (with_reducible refine (Sx.wantE hx h2 _).mono ?_) | (with_reducible refine (Sx.wantE (hx.alloc _) h2 _).mono ?_));rintro e w9 ⟨he,ht,hu⟩;(unfold pan fv at he);subst he))
   exact ⟨rfl,rfl,ht,hu⟩
  ·clear hP
   go_enter Tryz.func158,Tryz.ntmps158
   go_wp2_with (first | (go_at_call 26;(with_reducible refine (Sx.look hx h1).mono ?_);rintro e w2 ⟨he,hx2⟩;(unfold tv at he);subst he;(replace hx:=hx2);clear hx2) | (go_at_call 47;(first | (with_reducible refine (Sx.wantB hx h2 _ g2).mono ?_) | (with_reducible refine (Sx.wantB (hx.alloc _) h2 _ g2).mono ?_));rintro e w9 ⟨he,ht,hu⟩;(unfold pan fv at he);subst he))
   exact ⟨rfl,rfl,ht,hu⟩
  ·skip
   rcases bind_inv hP with ⟨f,q3,rfl⟩ | ⟨f3,s3,q3,hP⟩
   ·clear hP
    go_enter Tryz.func158,Tryz.ntmps158
    go_wp2_with (first | (go_at_call 26;(with_reducible refine (Sx.look hx h1).mono ?_);rintro e w2 ⟨he,hx2⟩;(unfold tv at he);subst he;(replace hx:=hx2);clear hx2) | (go_at_call 47;(first | (with_reducible refine (Sx.want hx h2 _ g2).mono ?_) | (with_reducible refine (Sx.want (hx.alloc _) h2 _ g2).mono ?_));rintro e w2 ⟨rfl,hx2⟩;(replace hx:=hx2);clear hx2) | (go_at_call 126;(first | (with_reducible refine (Sx.partE hx ce q3).mono ?_) | (with_reducible refine (Sx.partE (hx.alloc _) ce q3).mono ?_));rintro e w9 ⟨he,ht,hu⟩;(unfold pan fv at he);subst he))
    exact ⟨rfl,rfl,ht,hu⟩
   ·skip
    rcases want_inv hP with ⟨f,h4,rfl⟩ | ⟨y4,h4,g4,rfl⟩ | ⟨y4,h4,g4,hP⟩
    ·clear hP
     go_enter Tryz.func158,Tryz.ntmps158
     go_wp2_with (first | (go_at_call 26;(with_reducible refine (Sx.look hx h1).mono ?_);rintro e w2 ⟨he,hx2⟩;(unfold tv at he);subst he;(replace hx:=hx2);clear hx2) | (go_at_call 47;(first | (with_reducible refine (Sx.want hx h2 _ g2).mono ?_) | (with_reducible refine (Sx.want (hx.alloc _) h2 _ g2).mono ?_));rintro e w2 ⟨rfl,hx2⟩;(replace hx:=hx2);clear hx2) | (go_at_call 126;(first | (with_reducible refine (Sx.part hx ce q3).mono ?_) | (with_reducible refine (Sx.part (hx.alloc _) ce q3).mono ?_));rintro e w2 ⟨b3,rfl,hx2⟩;(replace hx:=hx2);clear hx2) | (go_at_call 47;(first | (with_reducible refine (Sx.wantE hx h4 _).mono ?_) | (with_reducible refine (Sx.wantE (hx.alloc _) h4 _).mono ?_));rintro e w9 ⟨he,ht,hu⟩;(unfold pan fv at he);subst he))
     exact ⟨rfl,rfl,ht,hu⟩
    ·clear hP
     go_enter Tryz.func158,Tryz.ntmps158
     go_wp2_with (first | (go_at_call 26;(with_reducible refine (Sx.look hx h1).mono ?_);rintro e w2 ⟨he,hx2⟩;(unfold tv at he);subst he;(replace hx:=hx2);clear hx2) | (go_at_call 47;(first | (with_reducible refine (Sx.want hx h2 _ g2).mono ?_) | (with_reducible refine (Sx.want (hx.alloc _) h2 _ g2).mono ?_));rintro e w2 ⟨rfl,hx2⟩;(replace hx:=hx2);clear hx2) | (go_at_call 126;(first | (with_reducible refine (Sx.part hx ce q3).mono ?_) | (with_reducible refine (Sx.part (hx.alloc _) ce q3).mono ?_));rintro e w2 ⟨b3,rfl,hx2⟩;(replace hx:=hx2);clear hx2) | (go_at_call 47;(first | (with_reducible refine (Sx.wantB hx h4 _ g4).mono ?_) | (with_reducible refine (Sx.wantB (hx.alloc _) h4 _ g4).mono ?_));rintro e w9 ⟨he,ht,hu⟩;(unfold pan fv at he);subst he))
     exact ⟨rfl,rfl,ht,hu⟩
    ·skip
     obtain rfl:=pure_inv hP
     go_enter Tryz.func158,Tryz.ntmps158
     go_wp2_with (first | (go_at_call 26;(with_reducible refine (Sx.look hx h1).mono ?_);rintro e w2 ⟨he,hx2⟩;(unfold tv at he);subst he;(replace hx:=hx2);clear hx2) | (go_at_call 47;(first | (with_reducible refine (Sx.want hx h2 _ g2).mono ?_) | (with_reducible refine (Sx.want (hx.alloc _) h2 _ g2).mono ?_));rintro e w2 ⟨rfl,hx2⟩;(replace hx:=hx2);clear hx2) | (go_at_call 126;(first | (with_reducible refine (Sx.part hx ce q3).mono ?_) | (with_reducible refine (Sx.part (hx.alloc _) ce q3).mono ?_));rintro e w2 ⟨b3,rfl,hx2⟩;(replace hx:=hx2);clear hx2) | (go_at_call 47;(first | (with_reducible refine (Sx.want hx h4 _ g4).mono ?_) | (with_reducible refine (Sx.want (hx.alloc _) h4 _ g4).mono ?_));rintro e w2 ⟨rfl,hx2⟩;(replace hx:=hx2);clear hx2))
     go_ret
     exact hx.res (List.mem_cons_self ..)
end Go.Proofs.YtkjaoandifednaaGreatDoor.W.Tr

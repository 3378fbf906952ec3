import Derived.Test.YtgchnkgolclmgaaGreatDoorJG
import Derived.Test.YtgchnkgolclmgaaGreatDoorRB
import Derived.Test.YtgchnkgolclmgaaGreatDoorRS4J
import Derived.Lib.AppendZeros
open List renaming length_append → bY, length_drop → dI, cons → dR, drop_eq_nil_of_le → gL, drop_drop → qV, length_singleton → BR, length_take → Gq
open Array renaming getElem?_eq_some_iff → U6
open Nat renaming le_refl → aY, le_succ_of_le → ay, le_trans → gI
open Go.World renaming alloc → lH
open Go.RowKit.Below renaming refl → jl
open Go.IntKind renaming i64 → dQ, wrap_i64 → eU
open Int renaming ofNat_lt → aL, natCast_nonneg → bO, ofNat_le → gy
open Go.AllReadyH renaming cons → BQ, nil → Dp
open And renaming intro → aH
open Go.Proofs.Tryz
open List renaming getElem_toArray → aW, getElem_cons_zero → aV, getElem_cons_succ → aU, setIfInBounds_toArray → aT, set_cons_zero → aS, set_cons_succ → aR
set_option maxRecDepth 1000000
set_option maxHeartbeats 8000000
namespace Go.Proofs.YtgchnkgolclmgaaGreatDoor.W
open Go.ChangeShapes Go.WideShapes Go.RowKit Go.Shelf
set_option linter.unusedVariables false
set_option linter.unusedSimpArgs false
theorem rJ(p:UInt8->Bool)(s:ByteArray)(k:Nat){tE:Nat}(h3:runN p (s.data.toList.drop k)+k=tE)(h2:k<=s.size):(∃h:k<s.size,p s[k]=true)\/(k=tE/\(¬k<s.size\/∃h:k<s.size,p s[k]=false)):=by
 by_cases c:k<s.size
 ·have hd:=drop_cons s k c
  cases b:p s[k]
  ·right
   rw[hd,gM b] at h3
   exact⟨by omega,.inr ⟨c,b⟩⟩
  ·exact .inl ⟨c,b⟩
 ·right
  rw[gL (by rw[size_list];omega)] at h3
  exact⟨by have:runN p []=0:=rfl;omega,.inl c⟩
theorem zK(c:UInt8):(iN c=true->0<=bT c\/(¬0<=bT c/\((c.toNat:Int)==46)=true))/\(iN c=false->¬0<=bT c/\((c.toNat:Int)==46)=false):=by
 have e1:iN c=(decide (c.toNat=46)||decide (0<=bT c)):=by
  unfold iN
  rw[<- oK c 46 (by decide)];rfl
 rw[e1]
 constructor
 ·intro h
  by_cases g:0<=bT c
  ·exact .inl g
  ·right;simp[g] at h;exact⟨g,by rw[h];rfl⟩
 ·intro h
  simp at h
  exact⟨by omega,by rw[beq_eq_false_iff_ne];intro q;exact h.1 (by omega)⟩
theorem kG{s:ByteArray}(hs:s.size<=1000000){j m:Nat}(hj:j<=s.size+1)(h:j+1=m):dQ.wrap ((j:Int)+1)=(m:Int)/\wrap64 ((j:Int)+1)=(m:Int):=by
 constructor
 ·rw[eU];omega
 ·unfold wrap64;omega
theorem AZ{n k:Nat}(h:k<n):n-(intOf (.int .i64 ((k+1:Nat):Int))).toNat<n-(intOf (.int .i64 (k:Int))).toNat:=by
 simp[intOf];omega
theorem vZ(p:UInt8->Bool)(s:ByteArray){k tE:Nat}(c:k<s.size)(b:p s[k]=true)(h3:runN p (s.data.toList.drop k)+k=tE):runN p (s.data.toList.drop (k+1))+(k+1)=tE:=by
 rw[drop_cons s k c,dP b] at h3
 omega
theorem EP(s S:ByteArray)(hs:s.size<=1000000)(a A1 A2 k1 tE:Nat)(hA1:a+1=A1)(hA2:a+2=A2)(ha0:a<s.size)(ha:A1<s.size)(x0:((s[a].toNat:Int)==48)=true)(x1:((s[A1].toNat:Int)==120)=true)(hk1:runN iN (s.data.toList.drop A2)+A2=k1)(hS:s.extract a tE=S)(x c:Int)(cp:∀w,Calls prog 67 #[.string S] w λe w'=>e=.returned (.tuple #[.int .u64 x,.int .i64 c])/\Below w.heap.size w w')
  (K2:Nat) (hK2:k1+1=K2) (hp:(tE=k1/\(¬k1<s.size\/∃h:k1<s.size,((s[k1].toNat:Int)==112)=false))\/(∃h:k1<s.size,((s[k1].toNat:Int)==112)=true/\∃k3,k1<=k3/\(runN bI (s.data.toList.drop k3)+k3=tE/\k3<=s.size)/\((k3=K2+1/\∃h:K2<s.size,((s[K2].toNat:Int)==43)=true\/(((s[K2].toNat:Int)==43)=false/\((s[K2].toNat:Int)==45)=true))\/(k3=K2/\(¬K2<s.size\/∃h:K2<s.size,((s[K2].toNat:Int)==43)=false/\((s[K2].toNat:Int)==45)=false))))) (R:Value)
  (ways:(c≠0/\R=.tuple #[tv gX 0,.int .i64 (a:Nat),.agg #[.int .i64 62,.int .i64 (a:Nat)]])\/(c=0/\R=.tuple #[tv ⟨5,⟨#[]⟩,0,x⟩ (a:Nat),.int .i64 (tE:Int),.agg #[.int .i64 0,.int .i64 0]])) (w:World) :
  Calls prog 39 #[.string s,.int .i64 a] w λe w'=>e=.returned R/\Below w.heap.size w w':=by
 have cd:=oV
 have ch:=EO
 have cf:=oU 62 a
 simp only[tv,gX] at cf
 have HS:=hid hs
 have Jl:=hid hk1
 have sZ:=hid hK2
 have HE:=hid hS
 have HW:=hid ways
 have HP:=hid hp
 have hN:=BK.start w
 clear hk1 hS ways hp hK2
 have a0:(0:Int)<=(a:Int):=by omega
 have a1:(a:Int)<(s.size:Int):=by omega
 have a2:dQ.wrap ((a:Int)+1)=(A1:Int):=by rw[eU];omega
 have a3:wrap64 ((a:Int)+1)=(A1:Int):=by unfold wrap64;omega
 have a4:(0:Int)<=(A1:Int):=by omega
 have a5:(A1:Int)<(s.size:Int):=by omega
 have a6:dQ.wrap ((a:Int)+2)=(A2:Int):=by rw[eU];omega
 have a7:wrap64 ((a:Int)+2)=(A2:Int):=by unfold wrap64;omega
 have HA2:=hid (show a<=A2/\A2<=s.size by omega)
 clear hA1 hA2
 clear hs
 go_enter func39,ntmps39
 go_upto_region 1 with fail
 generalize lH (lH w _) _=W at *
 have HN:=hid hN
 clear hN
 go_wp2_with fail
 clear x0 x1 a2 a3 a6 a7
 go_loop [7] (λi=>∃k:Nat,i=.int .i64 k/\A2<=k/\k<=s.size/\runN iN (s.data.toList.drop k)+k=k1) (λi=>s.size-(intOf i).toNat)
 case atStart=>exact⟨A2,rfl,aY _,HA2.out.2,Jl.out⟩
 case round=>
  obtain⟨k,rfl,h1,h2,h3⟩:=hrel
  have e1:dQ.wrap ((k:Int)+1)=((k+1:Nat):Int):=by have:=HS.out;rw[eU];omega
  have e2:wrap64 ((k:Int)+1)=((k+1:Nat):Int):=by have:=HS.out;unfold wrap64;omega
  have c0:(0:Int)<=(k:Int):=bO k
  rcases rJ iN s k h3 h2 with⟨c,b⟩|⟨ek,hx2⟩
  ·have hd:=drop_cons s k c
   have yE:=ch s[k]
   have hw:=(zK s[k]).1 b
   have c1:(k:Int)<(s.size:Int):=by omega
   have fin:=hid (show runN iN (s.data.toList.drop (k+1))+(k+1)=k1 by rw[hd,dP b] at h3;omega)
   have HH:=hid (aH h1 c)
   clear h1 h2 h3 hd b
   generalize bT s[k]=v at *
   rcases hw with hw|⟨hw,hw2⟩
   all_goals (
    go_wp2_with (go_at_call 69;(with_reducible refine(yE _).mono ?_);rintro e w' ⟨rfl,rfl⟩)
    go_round
    case rel=>exact⟨k+1,by go_num,by have:=HH.out.1;omega,HH.out.2,fin.out⟩
    case measure=>have:=HH.out.2;simp[intOf];omega)
  ·subst ek
   have H1:=hid h1
   rcases hx2 with hx2|⟨hk,hb⟩
   ·have ex:¬ (k:Int)<(s.size:Int):=by omega
    rcases HP.out with⟨et,_⟩|⟨h,_⟩
    ·subst et
     have hS:=HE.out
     have l1:(a:Int)<=(tE:Int):=by have:=HA2.out;omega
     have l2:(tE:Int)<=(s.size:Int):=by omega
     clear hx2 h1 h2 h3 e1 e2 HP
     have hN:=HN.out
     rcases HW.out with⟨b1,hR⟩|⟨b1,hR⟩
     ·have HR:=hid hR
      clear hR HW
      go_wp2_with (first|((with_reducible (apply Calls.mono;first|exact qI _|exact yE _));rintro e w' ⟨rfl,rfl⟩)|(go_at_call 67;(with_reducible refine(cp _).mono ?_);rintro e W2 ⟨rfl,hb⟩;(replace hN:=hN.go hb);clear hb)|(go_at_call 42;(with_reducible refine(cf _).mono ?_);rintro e W2 ⟨rfl,hb⟩;(replace hN:=hN.go hb);clear hb;(have k0:W2.cell? ⟨w.heap.size,0,none⟩=some (.int .i64 0):=aA hN.h4 0);(have k1:W2.cell? ⟨w.heap.size,1,none⟩=some (.int .i64 0):=aA hN.h4 1);(have k2:W2.cell? ⟨w.heap.size,2,none⟩=some (.string ⟨#[]⟩):=aA hN.h4 2);(have k3:W2.cell? ⟨w.heap.size,3,none⟩=some (.int .i64 0):=aA hN.h4 3);(have k4:W2.cell? ⟨w.heap.size,4,none⟩=some (.int .u64 0):=aA hN.h4 4);(have k5:W2.cell? ⟨w.heap.size+1,0,none⟩=some (.int .i64 0):=aA hN.h6 0);(have k6:W2.cell? ⟨w.heap.size+1,1,none⟩=some (.int .i64 0):=aA hN.h6 1);(have z4:=aC hN.h4);(have z6:=aC hN.h6);(have dL:=hid hN);clear hN))
      refine bodyPost_ret (dG rfl _ _ w.heap.size (w.heap.size+1) _ _ _ _ _ _ _ _ (0,0) (0,0) rfl rfl rfl (dL.out.fin _ _ _ _ _ _ _).1 (dL.out.fin _ _ _ _ _ _ _).2.1) rfl ?_
      exact⟨by rw[HR.out];rfl,(dL.out.fin _ _ _ _ _ _ _).2.2⟩
     ·have HR:=hid hR
      subst b1
      clear hR HW
      go_wp2_with (first|((with_reducible (apply Calls.mono;first|exact qI _|exact yE _));rintro e w' ⟨rfl,rfl⟩)|(go_at_call 67;(with_reducible refine(cp _).mono ?_);rintro e W2 ⟨rfl,hb⟩;(replace hN:=hN.go hb);clear hb;(have k0:W2.cell? ⟨w.heap.size,0,none⟩=some (.int .i64 0):=aA hN.h4 0);(have k1:W2.cell? ⟨w.heap.size,1,none⟩=some (.int .i64 0):=aA hN.h4 1);(have k2:W2.cell? ⟨w.heap.size,2,none⟩=some (.string ⟨#[]⟩):=aA hN.h4 2);(have k3:W2.cell? ⟨w.heap.size,3,none⟩=some (.int .i64 0):=aA hN.h4 3);(have k4:W2.cell? ⟨w.heap.size,4,none⟩=some (.int .u64 0):=aA hN.h4 4);(have k5:W2.cell? ⟨w.heap.size+1,0,none⟩=some (.int .i64 0):=aA hN.h6 0);(have k6:W2.cell? ⟨w.heap.size+1,1,none⟩=some (.int .i64 0):=aA hN.h6 1);(have z4:=aC hN.h4);(have z6:=aC hN.h6);(have dL:=hid hN);clear hN))
      refine bodyPost_ret (dG rfl _ _ w.heap.size (w.heap.size+1) _ _ _ _ _ _ _ _ (0,0) (0,0) rfl rfl rfl (dL.out.fin _ _ _ _ _ _ _).1 (dL.out.fin _ _ _ _ _ _ _).2.1) rfl ?_
      exact⟨by rw[HR.out];rfl,(dL.out.fin _ _ _ _ _ _ _).2.2⟩
    ·exact absurd h hx2
   ·have yE:=ch s[k]
    obtain⟨hw,hw2⟩:=(zK s[k]).2 hb
    have c1:(k:Int)<(s.size:Int):=by omega
    generalize bT s[k]=v at *
    rcases HP.out with⟨et,hq⟩|⟨_,hq,k3,hle3,h3',hs3⟩
    ·subst et
     have hS:=HE.out
     have l1:(a:Int)<=(tE:Int):=by have:=HA2.out;omega
     have l2:(tE:Int)<=(s.size:Int):=by omega
     have np:((s[tE].toNat:Int)==112)=false:=by
      rcases hq with hq|⟨_,hq⟩
      ·exact absurd hk hq
      ·exact hq
     clear hq h1 h2 h3 e1 e2 HP hb
     have hN:=HN.out
     rcases HW.out with⟨b1,hR⟩|⟨b1,hR⟩
     ·have HR:=hid hR
      clear hR HW
      go_wp2_with (first|((with_reducible (apply Calls.mono;first|exact qI _|exact yE _));rintro e w' ⟨rfl,rfl⟩)|(go_at_call 67;(with_reducible refine(cp _).mono ?_);rintro e W2 ⟨rfl,hb⟩;(replace hN:=hN.go hb);clear hb)|(go_at_call 42;(with_reducible refine(cf _).mono ?_);rintro e W2 ⟨rfl,hb⟩;(replace hN:=hN.go hb);clear hb;(have k0:W2.cell? ⟨w.heap.size,0,none⟩=some (.int .i64 0):=aA hN.h4 0);(have k1:W2.cell? ⟨w.heap.size,1,none⟩=some (.int .i64 0):=aA hN.h4 1);(have k2:W2.cell? ⟨w.heap.size,2,none⟩=some (.string ⟨#[]⟩):=aA hN.h4 2);(have k3:W2.cell? ⟨w.heap.size,3,none⟩=some (.int .i64 0):=aA hN.h4 3);(have k4:W2.cell? ⟨w.heap.size,4,none⟩=some (.int .u64 0):=aA hN.h4 4);(have k5:W2.cell? ⟨w.heap.size+1,0,none⟩=some (.int .i64 0):=aA hN.h6 0);(have k6:W2.cell? ⟨w.heap.size+1,1,none⟩=some (.int .i64 0):=aA hN.h6 1);(have z4:=aC hN.h4);(have z6:=aC hN.h6);(have dL:=hid hN);clear hN))
      refine bodyPost_ret (dG rfl _ _ w.heap.size (w.heap.size+1) _ _ _ _ _ _ _ _ (0,0) (0,0) rfl rfl rfl (dL.out.fin _ _ _ _ _ _ _).1 (dL.out.fin _ _ _ _ _ _ _).2.1) rfl ?_
      exact⟨by rw[HR.out];rfl,(dL.out.fin _ _ _ _ _ _ _).2.2⟩
     ·have HR:=hid hR
      subst b1
      clear hR HW
      go_wp2_with (first|((with_reducible (apply Calls.mono;first|exact qI _|exact yE _));rintro e w' ⟨rfl,rfl⟩)|(go_at_call 67;(with_reducible refine(cp _).mono ?_);rintro e W2 ⟨rfl,hb⟩;(replace hN:=hN.go hb);clear hb;(have k0:W2.cell? ⟨w.heap.size,0,none⟩=some (.int .i64 0):=aA hN.h4 0);(have k1:W2.cell? ⟨w.heap.size,1,none⟩=some (.int .i64 0):=aA hN.h4 1);(have k2:W2.cell? ⟨w.heap.size,2,none⟩=some (.string ⟨#[]⟩):=aA hN.h4 2);(have k3:W2.cell? ⟨w.heap.size,3,none⟩=some (.int .i64 0):=aA hN.h4 3);(have k4:W2.cell? ⟨w.heap.size,4,none⟩=some (.int .u64 0):=aA hN.h4 4);(have k5:W2.cell? ⟨w.heap.size+1,0,none⟩=some (.int .i64 0):=aA hN.h6 0);(have k6:W2.cell? ⟨w.heap.size+1,1,none⟩=some (.int .i64 0):=aA hN.h6 1);(have z4:=aC hN.h4);(have z6:=aC hN.h6);(have dL:=hid hN);clear hN))
      refine bodyPost_ret (dG rfl _ _ w.heap.size (w.heap.size+1) _ _ _ _ _ _ _ _ (0,0) (0,0) rfl rfl rfl (dL.out.fin _ _ _ _ _ _ _).1 (dL.out.fin _ _ _ _ _ _ _).2.1) rfl ?_
      exact⟨by rw[HR.out];rfl,(dL.out.fin _ _ _ _ _ _ _).2.2⟩
    ·have H3:=hid h3'
     have HS3:=hid hs3
     clear hs3
     have HK3:=hid (gI HA2.out.1 (gI h1 hle3))
     have p0:(0:Int)<=(K2:Int):=bO K2
     have Vo:k<=s.size+1:=ay h2
     have Vn:K2<=s.size+1:=by rw[<- sZ.out];exact Nat.succ_le_succ h2
     obtain⟨p2,p3⟩:=kG HS.out Vo sZ.out
     obtain⟨p5,p4⟩:=kG HS.out Vn rfl
     clear Vo Vn e1 e2
     clear h1 h2 h3 HP hb h3' hle3
     rcases HS3.out with⟨hk3,hl,hsg⟩|⟨hk3,hsg⟩
     ·have HKK:=hid hk3
      clear hk3
      have p1:(K2:Int)<(s.size:Int):=aL.2 hl
      rcases hsg with hsg|⟨hsg,ku⟩
      all_goals (
       go_wp2_with ((with_reducible (apply Calls.mono;first|exact qI _|exact yE _));rintro e w' ⟨rfl,rfl⟩)
       go_loop [7] (λi=>∃j:Nat,i=.int .i64 j/\k3<=j/\j<=s.size/\runN bI (s.data.toList.drop j)+j=tE) (λi=>s.size-(intOf i).toNat)
       case atStart=>exact⟨k3,by first|(rw[HKK.out];done)|(rw[HKK.out];first|rfl|go_num),aY _,H3.out.2,H3.out.1⟩
       case round=>
        obtain⟨j,rfl,g1,g2,g3⟩:=hrel
        obtain⟨w1,w2⟩:=kG HS.out (ay g2) (rfl:j+1=j+1)
        rcases rJ bI s j g3 g2 with⟨c,b⟩|⟨ej,hx2⟩
        ·have qI:=cd s[j]
         rw[b] at qI
         have c1:(j:Int)<(s.size:Int):=aL.2 c
         have c0:(0:Int)<=(j:Int):=bO j
         have fin:=hid (vZ bI s c b g3)
         have HH:=hid (aH g1 c)
         clear g1 g2 g3 b
         go_wp2_with (go_at_call 38;(with_reducible refine(qI _).mono ?_);rintro e w' ⟨rfl,rfl⟩)
         go_round
         case rel=>exact⟨j+1,by first|rfl|go_num,ay HH.out.1,HH.out.2,fin.out⟩
         case measure=>exact AZ HH.out.2
        ·subst ej
         have hS:=HE.out
         have l1:(a:Int)<=(j:Int):=gy.2 (gI HK3.out g1)
         have l2:(j:Int)<=(s.size:Int):=gy.2 g2
         rcases hx2 with hx2|⟨hj,hb⟩
         ·have ex:¬ (j:Int)<(s.size:Int):=λq=>hx2 (aL.1 q)
          clear hx2 g1 g2 g3 w1 w2
          have hN:=HN.out
          rcases HW.out with⟨b1,hR⟩|⟨b1,hR⟩
          ·have HR:=hid hR
           clear hR HW
           go_wp2_with (first|((with_reducible (apply Calls.mono;first|exact qI _|exact yE _));rintro e w' ⟨rfl,rfl⟩)|(go_at_call 67;(with_reducible refine(cp _).mono ?_);rintro e W2 ⟨rfl,hb⟩;(replace hN:=hN.go hb);clear hb)|(go_at_call 42;(with_reducible refine(cf _).mono ?_);rintro e W2 ⟨rfl,hb⟩;(replace hN:=hN.go hb);clear hb;(have k0:W2.cell? ⟨w.heap.size,0,none⟩=some (.int .i64 0):=aA hN.h4 0);(have k1:W2.cell? ⟨w.heap.size,1,none⟩=some (.int .i64 0):=aA hN.h4 1);(have k2:W2.cell? ⟨w.heap.size,2,none⟩=some (.string ⟨#[]⟩):=aA hN.h4 2);(have k3:W2.cell? ⟨w.heap.size,3,none⟩=some (.int .i64 0):=aA hN.h4 3);(have k4:W2.cell? ⟨w.heap.size,4,none⟩=some (.int .u64 0):=aA hN.h4 4);(have k5:W2.cell? ⟨w.heap.size+1,0,none⟩=some (.int .i64 0):=aA hN.h6 0);(have k6:W2.cell? ⟨w.heap.size+1,1,none⟩=some (.int .i64 0):=aA hN.h6 1);(have z4:=aC hN.h4);(have z6:=aC hN.h6);(have dL:=hid hN);clear hN))
           refine bodyPost_ret (dG rfl _ _ w.heap.size (w.heap.size+1) _ _ _ _ _ _ _ _ (0,0) (0,0) rfl rfl rfl (dL.out.fin _ _ _ _ _ _ _).1 (dL.out.fin _ _ _ _ _ _ _).2.1) rfl ?_
           exact⟨by rw[HR.out];rfl,(dL.out.fin _ _ _ _ _ _ _).2.2⟩
          ·have HR:=hid hR
           subst b1
           clear hR HW
           go_wp2_with (first|((with_reducible (apply Calls.mono;first|exact qI _|exact yE _));rintro e w' ⟨rfl,rfl⟩)|(go_at_call 67;(with_reducible refine(cp _).mono ?_);rintro e W2 ⟨rfl,hb⟩;(replace hN:=hN.go hb);clear hb;(have k0:W2.cell? ⟨w.heap.size,0,none⟩=some (.int .i64 0):=aA hN.h4 0);(have k1:W2.cell? ⟨w.heap.size,1,none⟩=some (.int .i64 0):=aA hN.h4 1);(have k2:W2.cell? ⟨w.heap.size,2,none⟩=some (.string ⟨#[]⟩):=aA hN.h4 2);(have k3:W2.cell? ⟨w.heap.size,3,none⟩=some (.int .i64 0):=aA hN.h4 3);(have k4:W2.cell? ⟨w.heap.size,4,none⟩=some (.int .u64 0):=aA hN.h4 4);(have k5:W2.cell? ⟨w.heap.size+1,0,none⟩=some (.int .i64 0):=aA hN.h6 0);(have k6:W2.cell? ⟨w.heap.size+1,1,none⟩=some (.int .i64 0):=aA hN.h6 1);(have z4:=aC hN.h4);(have z6:=aC hN.h6);(have dL:=hid hN);clear hN))
           refine bodyPost_ret (dG rfl _ _ w.heap.size (w.heap.size+1) _ _ _ _ _ _ _ _ (0,0) (0,0) rfl rfl rfl (dL.out.fin _ _ _ _ _ _ _).1 (dL.out.fin _ _ _ _ _ _ _).2.1) rfl ?_
           exact⟨by rw[HR.out];rfl,(dL.out.fin _ _ _ _ _ _ _).2.2⟩
         ·have qI:=cd s[j]
          rw[hb] at qI
          clear g1 g2 g3 w1 w2 hb
          have hN:=HN.out
          rcases HW.out with⟨b1,hR⟩|⟨b1,hR⟩
          ·have HR:=hid hR
           clear hR HW
           go_wp2_with (first|((with_reducible (apply Calls.mono;first|exact qI _|exact yE _));rintro e w' ⟨rfl,rfl⟩)|(go_at_call 67;(with_reducible refine(cp _).mono ?_);rintro e W2 ⟨rfl,hb⟩;(replace hN:=hN.go hb);clear hb)|(go_at_call 42;(with_reducible refine(cf _).mono ?_);rintro e W2 ⟨rfl,hb⟩;(replace hN:=hN.go hb);clear hb;(have k0:W2.cell? ⟨w.heap.size,0,none⟩=some (.int .i64 0):=aA hN.h4 0);(have k1:W2.cell? ⟨w.heap.size,1,none⟩=some (.int .i64 0):=aA hN.h4 1);(have k2:W2.cell? ⟨w.heap.size,2,none⟩=some (.string ⟨#[]⟩):=aA hN.h4 2);(have k3:W2.cell? ⟨w.heap.size,3,none⟩=some (.int .i64 0):=aA hN.h4 3);(have k4:W2.cell? ⟨w.heap.size,4,none⟩=some (.int .u64 0):=aA hN.h4 4);(have k5:W2.cell? ⟨w.heap.size+1,0,none⟩=some (.int .i64 0):=aA hN.h6 0);(have k6:W2.cell? ⟨w.heap.size+1,1,none⟩=some (.int .i64 0):=aA hN.h6 1);(have z4:=aC hN.h4);(have z6:=aC hN.h6);(have dL:=hid hN);clear hN))
           refine bodyPost_ret (dG rfl _ _ w.heap.size (w.heap.size+1) _ _ _ _ _ _ _ _ (0,0) (0,0) rfl rfl rfl (dL.out.fin _ _ _ _ _ _ _).1 (dL.out.fin _ _ _ _ _ _ _).2.1) rfl ?_
           exact⟨by rw[HR.out];rfl,(dL.out.fin _ _ _ _ _ _ _).2.2⟩
          ·have HR:=hid hR
           subst b1
           clear hR HW
           go_wp2_with (first|((with_reducible (apply Calls.mono;first|exact qI _|exact yE _));rintro e w' ⟨rfl,rfl⟩)|(go_at_call 67;(with_reducible refine(cp _).mono ?_);rintro e W2 ⟨rfl,hb⟩;(replace hN:=hN.go hb);clear hb;(have k0:W2.cell? ⟨w.heap.size,0,none⟩=some (.int .i64 0):=aA hN.h4 0);(have k1:W2.cell? ⟨w.heap.size,1,none⟩=some (.int .i64 0):=aA hN.h4 1);(have k2:W2.cell? ⟨w.heap.size,2,none⟩=some (.string ⟨#[]⟩):=aA hN.h4 2);(have k3:W2.cell? ⟨w.heap.size,3,none⟩=some (.int .i64 0):=aA hN.h4 3);(have k4:W2.cell? ⟨w.heap.size,4,none⟩=some (.int .u64 0):=aA hN.h4 4);(have k5:W2.cell? ⟨w.heap.size+1,0,none⟩=some (.int .i64 0):=aA hN.h6 0);(have k6:W2.cell? ⟨w.heap.size+1,1,none⟩=some (.int .i64 0):=aA hN.h6 1);(have z4:=aC hN.h4);(have z6:=aC hN.h6);(have dL:=hid hN);clear hN))
           refine bodyPost_ret (dG rfl _ _ w.heap.size (w.heap.size+1) _ _ _ _ _ _ _ _ (0,0) (0,0) rfl rfl rfl (dL.out.fin _ _ _ _ _ _ _).1 (dL.out.fin _ _ _ _ _ _ _).2.1) rfl ?_
           exact⟨by rw[HR.out];rfl,(dL.out.fin _ _ _ _ _ _ _).2.2⟩)
     ·have HKK:=hid hk3
      clear hk3
      rcases hsg with hsg|⟨hl,hs1,hs2⟩
      ·have p1:¬ (K2:Int)<(s.size:Int):=λq=>hsg (aL.1 q)
       go_wp2_with ((with_reducible (apply Calls.mono;first|exact qI _|exact yE _));rintro e w' ⟨rfl,rfl⟩)
       go_loop [7] (λi=>∃j:Nat,i=.int .i64 j/\k3<=j/\j<=s.size/\runN bI (s.data.toList.drop j)+j=tE) (λi=>s.size-(intOf i).toNat)
       case atStart=>exact⟨k3,by first|(rw[HKK.out];done)|(rw[HKK.out];first|rfl|go_num),aY _,H3.out.2,H3.out.1⟩
       case round=>
        obtain⟨j,rfl,g1,g2,g3⟩:=hrel
        obtain⟨w1,w2⟩:=kG HS.out (ay g2) (rfl:j+1=j+1)
        rcases rJ bI s j g3 g2 with⟨c,b⟩|⟨ej,hx2⟩
        ·have qI:=cd s[j]
         rw[b] at qI
         have c1:(j:Int)<(s.size:Int):=aL.2 c
         have c0:(0:Int)<=(j:Int):=bO j
         have fin:=hid (vZ bI s c b g3)
         have HH:=hid (aH g1 c)
         clear g1 g2 g3 b
         go_wp2_with (go_at_call 38;(with_reducible refine(qI _).mono ?_);rintro e w' ⟨rfl,rfl⟩)
         go_round
         case rel=>exact⟨j+1,by first|rfl|go_num,ay HH.out.1,HH.out.2,fin.out⟩
         case measure=>exact AZ HH.out.2
        ·subst ej
         have hS:=HE.out
         have l1:(a:Int)<=(j:Int):=gy.2 (gI HK3.out g1)
         have l2:(j:Int)<=(s.size:Int):=gy.2 g2
         rcases hx2 with hx2|⟨hj,hb⟩
         ·have ex:¬ (j:Int)<(s.size:Int):=λq=>hx2 (aL.1 q)
          clear hx2 g1 g2 g3 w1 w2
          have hN:=HN.out
          rcases HW.out with⟨b1,hR⟩|⟨b1,hR⟩
          ·have HR:=hid hR
           clear hR HW
           go_wp2_with (first|((with_reducible (apply Calls.mono;first|exact qI _|exact yE _));rintro e w' ⟨rfl,rfl⟩)|(go_at_call 67;(with_reducible refine(cp _).mono ?_);rintro e W2 ⟨rfl,hb⟩;(replace hN:=hN.go hb);clear hb)|(go_at_call 42;(with_reducible refine(cf _).mono ?_);rintro e W2 ⟨rfl,hb⟩;(replace hN:=hN.go hb);clear hb;(have k0:W2.cell? ⟨w.heap.size,0,none⟩=some (.int .i64 0):=aA hN.h4 0);(have k1:W2.cell? ⟨w.heap.size,1,none⟩=some (.int .i64 0):=aA hN.h4 1);(have k2:W2.cell? ⟨w.heap.size,2,none⟩=some (.string ⟨#[]⟩):=aA hN.h4 2);(have k3:W2.cell? ⟨w.heap.size,3,none⟩=some (.int .i64 0):=aA hN.h4 3);(have k4:W2.cell? ⟨w.heap.size,4,none⟩=some (.int .u64 0):=aA hN.h4 4);(have k5:W2.cell? ⟨w.heap.size+1,0,none⟩=some (.int .i64 0):=aA hN.h6 0);(have k6:W2.cell? ⟨w.heap.size+1,1,none⟩=some (.int .i64 0):=aA hN.h6 1);(have z4:=aC hN.h4);(have z6:=aC hN.h6);(have dL:=hid hN);clear hN))
           refine bodyPost_ret (dG rfl _ _ w.heap.size (w.heap.size+1) _ _ _ _ _ _ _ _ (0,0) (0,0) rfl rfl rfl (dL.out.fin _ _ _ _ _ _ _).1 (dL.out.fin _ _ _ _ _ _ _).2.1) rfl ?_
           exact⟨by rw[HR.out];rfl,(dL.out.fin _ _ _ _ _ _ _).2.2⟩
          ·have HR:=hid hR
           subst b1
           clear hR HW
           go_wp2_with (first|((with_reducible (apply Calls.mono;first|exact qI _|exact yE _));rintro e w' ⟨rfl,rfl⟩)|(go_at_call 67;(with_reducible refine(cp _).mono ?_);rintro e W2 ⟨rfl,hb⟩;(replace hN:=hN.go hb);clear hb;(have k0:W2.cell? ⟨w.heap.size,0,none⟩=some (.int .i64 0):=aA hN.h4 0);(have k1:W2.cell? ⟨w.heap.size,1,none⟩=some (.int .i64 0):=aA hN.h4 1);(have k2:W2.cell? ⟨w.heap.size,2,none⟩=some (.string ⟨#[]⟩):=aA hN.h4 2);(have k3:W2.cell? ⟨w.heap.size,3,none⟩=some (.int .i64 0):=aA hN.h4 3);(have k4:W2.cell? ⟨w.heap.size,4,none⟩=some (.int .u64 0):=aA hN.h4 4);(have k5:W2.cell? ⟨w.heap.size+1,0,none⟩=some (.int .i64 0):=aA hN.h6 0);(have k6:W2.cell? ⟨w.heap.size+1,1,none⟩=some (.int .i64 0):=aA hN.h6 1);(have z4:=aC hN.h4);(have z6:=aC hN.h6);(have dL:=hid hN);clear hN))
           refine bodyPost_ret (dG rfl _ _ w.heap.size (w.heap.size+1) _ _ _ _ _ _ _ _ (0,0) (0,0) rfl rfl rfl (dL.out.fin _ _ _ _ _ _ _).1 (dL.out.fin _ _ _ _ _ _ _).2.1) rfl ?_
           exact⟨by rw[HR.out];rfl,(dL.out.fin _ _ _ _ _ _ _).2.2⟩
         ·have qI:=cd s[j]
          rw[hb] at qI
          clear g1 g2 g3 w1 w2 hb
          have hN:=HN.out
          rcases HW.out with⟨b1,hR⟩|⟨b1,hR⟩
          ·have HR:=hid hR
           clear hR HW
           go_wp2_with (first|((with_reducible (apply Calls.mono;first|exact qI _|exact yE _));rintro e w' ⟨rfl,rfl⟩)|(go_at_call 67;(with_reducible refine(cp _).mono ?_);rintro e W2 ⟨rfl,hb⟩;(replace hN:=hN.go hb);clear hb)|(go_at_call 42;(with_reducible refine(cf _).mono ?_);rintro e W2 ⟨rfl,hb⟩;(replace hN:=hN.go hb);clear hb;(have k0:W2.cell? ⟨w.heap.size,0,none⟩=some (.int .i64 0):=aA hN.h4 0);(have k1:W2.cell? ⟨w.heap.size,1,none⟩=some (.int .i64 0):=aA hN.h4 1);(have k2:W2.cell? ⟨w.heap.size,2,none⟩=some (.string ⟨#[]⟩):=aA hN.h4 2);(have k3:W2.cell? ⟨w.heap.size,3,none⟩=some (.int .i64 0):=aA hN.h4 3);(have k4:W2.cell? ⟨w.heap.size,4,none⟩=some (.int .u64 0):=aA hN.h4 4);(have k5:W2.cell? ⟨w.heap.size+1,0,none⟩=some (.int .i64 0):=aA hN.h6 0);(have k6:W2.cell? ⟨w.heap.size+1,1,none⟩=some (.int .i64 0):=aA hN.h6 1);(have z4:=aC hN.h4);(have z6:=aC hN.h6);(have dL:=hid hN);clear hN))
           refine bodyPost_ret (dG rfl _ _ w.heap.size (w.heap.size+1) _ _ _ _ _ _ _ _ (0,0) (0,0) rfl rfl rfl (dL.out.fin _ _ _ _ _ _ _).1 (dL.out.fin _ _ _ _ _ _ _).2.1) rfl ?_
           exact⟨by rw[HR.out];rfl,(dL.out.fin _ _ _ _ _ _ _).2.2⟩
          ·have HR:=hid hR
           subst b1
           clear hR HW
           go_wp2_with (first|((with_reducible (apply Calls.mono;first|exact qI _|exact yE _));rintro e w' ⟨rfl,rfl⟩)|(go_at_call 67;(with_reducible refine(cp _).mono ?_);rintro e W2 ⟨rfl,hb⟩;(replace hN:=hN.go hb);clear hb;(have k0:W2.cell? ⟨w.heap.size,0,none⟩=some (.int .i64 0):=aA hN.h4 0);(have k1:W2.cell? ⟨w.heap.size,1,none⟩=some (.int .i64 0):=aA hN.h4 1);(have k2:W2.cell? ⟨w.heap.size,2,none⟩=some (.string ⟨#[]⟩):=aA hN.h4 2);(have k3:W2.cell? ⟨w.heap.size,3,none⟩=some (.int .i64 0):=aA hN.h4 3);(have k4:W2.cell? ⟨w.heap.size,4,none⟩=some (.int .u64 0):=aA hN.h4 4);(have k5:W2.cell? ⟨w.heap.size+1,0,none⟩=some (.int .i64 0):=aA hN.h6 0);(have k6:W2.cell? ⟨w.heap.size+1,1,none⟩=some (.int .i64 0):=aA hN.h6 1);(have z4:=aC hN.h4);(have z6:=aC hN.h6);(have dL:=hid hN);clear hN))
           refine bodyPost_ret (dG rfl _ _ w.heap.size (w.heap.size+1) _ _ _ _ _ _ _ _ (0,0) (0,0) rfl rfl rfl (dL.out.fin _ _ _ _ _ _ _).1 (dL.out.fin _ _ _ _ _ _ _).2.1) rfl ?_
           exact⟨by rw[HR.out];rfl,(dL.out.fin _ _ _ _ _ _ _).2.2⟩
      ·have p1:(K2:Int)<(s.size:Int):=aL.2 hl
       go_wp2_with ((with_reducible (apply Calls.mono;first|exact qI _|exact yE _));rintro e w' ⟨rfl,rfl⟩)
       go_loop [7] (λi=>∃j:Nat,i=.int .i64 j/\k3<=j/\j<=s.size/\runN bI (s.data.toList.drop j)+j=tE) (λi=>s.size-(intOf i).toNat)
       case atStart=>exact⟨k3,by first|(rw[HKK.out];done)|(rw[HKK.out];first|rfl|go_num),aY _,H3.out.2,H3.out.1⟩
       case round=>
        obtain⟨j,rfl,g1,g2,g3⟩:=hrel
        obtain⟨w1,w2⟩:=kG HS.out (ay g2) (rfl:j+1=j+1)
        rcases rJ bI s j g3 g2 with⟨c,b⟩|⟨ej,hx2⟩
        ·have qI:=cd s[j]
         rw[b] at qI
         have c1:(j:Int)<(s.size:Int):=aL.2 c
         have c0:(0:Int)<=(j:Int):=bO j
         have fin:=hid (vZ bI s c b g3)
         have HH:=hid (aH g1 c)
         clear g1 g2 g3 b
         go_wp2_with (go_at_call 38;(with_reducible refine(qI _).mono ?_);rintro e w' ⟨rfl,rfl⟩)
         go_round
         case rel=>exact⟨j+1,by first|rfl|go_num,ay HH.out.1,HH.out.2,fin.out⟩
         case measure=>exact AZ HH.out.2
        ·subst ej
         have hS:=HE.out
         have l1:(a:Int)<=(j:Int):=gy.2 (gI HK3.out g1)
         have l2:(j:Int)<=(s.size:Int):=gy.2 g2
         rcases hx2 with hx2|⟨hj,hb⟩
         ·have ex:¬ (j:Int)<(s.size:Int):=λq=>hx2 (aL.1 q)
          clear hx2 g1 g2 g3 w1 w2
          have hN:=HN.out
          rcases HW.out with⟨b1,hR⟩|⟨b1,hR⟩
          ·have HR:=hid hR
           clear hR HW
           go_wp2_with (first|((with_reducible (apply Calls.mono;first|exact qI _|exact yE _));rintro e w' ⟨rfl,rfl⟩)|(go_at_call 67;(with_reducible refine(cp _).mono ?_);rintro e W2 ⟨rfl,hb⟩;(replace hN:=hN.go hb);clear hb)|(go_at_call 42;(with_reducible refine(cf _).mono ?_);rintro e W2 ⟨rfl,hb⟩;(replace hN:=hN.go hb);clear hb;(have k0:W2.cell? ⟨w.heap.size,0,none⟩=some (.int .i64 0):=aA hN.h4 0);(have k1:W2.cell? ⟨w.heap.size,1,none⟩=some (.int .i64 0):=aA hN.h4 1);(have k2:W2.cell? ⟨w.heap.size,2,none⟩=some (.string ⟨#[]⟩):=aA hN.h4 2);(have k3:W2.cell? ⟨w.heap.size,3,none⟩=some (.int .i64 0):=aA hN.h4 3);(have k4:W2.cell? ⟨w.heap.size,4,none⟩=some (.int .u64 0):=aA hN.h4 4);(have k5:W2.cell? ⟨w.heap.size+1,0,none⟩=some (.int .i64 0):=aA hN.h6 0);(have k6:W2.cell? ⟨w.heap.size+1,1,none⟩=some (.int .i64 0):=aA hN.h6 1);(have z4:=aC hN.h4);(have z6:=aC hN.h6);(have dL:=hid hN);clear hN))
           refine bodyPost_ret (dG rfl _ _ w.heap.size (w.heap.size+1) _ _ _ _ _ _ _ _ (0,0) (0,0) rfl rfl rfl (dL.out.fin _ _ _ _ _ _ _).1 (dL.out.fin _ _ _ _ _ _ _).2.1) rfl ?_
           exact⟨by rw[HR.out];rfl,(dL.out.fin _ _ _ _ _ _ _).2.2⟩
          ·have HR:=hid hR
           subst b1
           clear hR HW
           go_wp2_with (first|((with_reducible (apply Calls.mono;first|exact qI _|exact yE _));rintro e w' ⟨rfl,rfl⟩)|(go_at_call 67;(with_reducible refine(cp _).mono ?_);rintro e W2 ⟨rfl,hb⟩;(replace hN:=hN.go hb);clear hb;(have k0:W2.cell? ⟨w.heap.size,0,none⟩=some (.int .i64 0):=aA hN.h4 0);(have k1:W2.cell? ⟨w.heap.size,1,none⟩=some (.int .i64 0):=aA hN.h4 1);(have k2:W2.cell? ⟨w.heap.size,2,none⟩=some (.string ⟨#[]⟩):=aA hN.h4 2);(have k3:W2.cell? ⟨w.heap.size,3,none⟩=some (.int .i64 0):=aA hN.h4 3);(have k4:W2.cell? ⟨w.heap.size,4,none⟩=some (.int .u64 0):=aA hN.h4 4);(have k5:W2.cell? ⟨w.heap.size+1,0,none⟩=some (.int .i64 0):=aA hN.h6 0);(have k6:W2.cell? ⟨w.heap.size+1,1,none⟩=some (.int .i64 0):=aA hN.h6 1);(have z4:=aC hN.h4);(have z6:=aC hN.h6);(have dL:=hid hN);clear hN))
           refine bodyPost_ret (dG rfl _ _ w.heap.size (w.heap.size+1) _ _ _ _ _ _ _ _ (0,0) (0,0) rfl rfl rfl (dL.out.fin _ _ _ _ _ _ _).1 (dL.out.fin _ _ _ _ _ _ _).2.1) rfl ?_
           exact⟨by rw[HR.out];rfl,(dL.out.fin _ _ _ _ _ _ _).2.2⟩
         ·have qI:=cd s[j]
          rw[hb] at qI
          clear g1 g2 g3 w1 w2 hb
          have hN:=HN.out
          rcases HW.out with⟨b1,hR⟩|⟨b1,hR⟩
          ·have HR:=hid hR
           clear hR HW
           go_wp2_with (first|((with_reducible (apply Calls.mono;first|exact qI _|exact yE _));rintro e w' ⟨rfl,rfl⟩)|(go_at_call 67;(with_reducible refine(cp _).mono ?_);rintro e W2 ⟨rfl,hb⟩;(replace hN:=hN.go hb);clear hb)|(go_at_call 42;(with_reducible refine(cf _).mono ?_);rintro e W2 ⟨rfl,hb⟩;(replace hN:=hN.go hb);clear hb;(have k0:W2.cell? ⟨w.heap.size,0,none⟩=some (.int .i64 0):=aA hN.h4 0);(have k1:W2.cell? ⟨w.heap.size,1,none⟩=some (.int .i64 0):=aA hN.h4 1);(have k2:W2.cell? ⟨w.heap.size,2,none⟩=some (.string ⟨#[]⟩):=aA hN.h4 2);(have k3:W2.cell? ⟨w.heap.size,3,none⟩=some (.int .i64 0):=aA hN.h4 3);(have k4:W2.cell? ⟨w.heap.size,4,none⟩=some (.int .u64 0):=aA hN.h4 4);(have k5:W2.cell? ⟨w.heap.size+1,0,none⟩=some (.int .i64 0):=aA hN.h6 0);(have k6:W2.cell? ⟨w.heap.size+1,1,none⟩=some (.int .i64 0):=aA hN.h6 1);(have z4:=aC hN.h4);(have z6:=aC hN.h6);(have dL:=hid hN);clear hN))
           refine bodyPost_ret (dG rfl _ _ w.heap.size (w.heap.size+1) _ _ _ _ _ _ _ _ (0,0) (0,0) rfl rfl rfl (dL.out.fin _ _ _ _ _ _ _).1 (dL.out.fin _ _ _ _ _ _ _).2.1) rfl ?_
           exact⟨by rw[HR.out];rfl,(dL.out.fin _ _ _ _ _ _ _).2.2⟩
          ·have HR:=hid hR
           subst b1
           clear hR HW
           go_wp2_with (first|((with_reducible (apply Calls.mono;first|exact qI _|exact yE _));rintro e w' ⟨rfl,rfl⟩)|(go_at_call 67;(with_reducible refine(cp _).mono ?_);rintro e W2 ⟨rfl,hb⟩;(replace hN:=hN.go hb);clear hb;(have k0:W2.cell? ⟨w.heap.size,0,none⟩=some (.int .i64 0):=aA hN.h4 0);(have k1:W2.cell? ⟨w.heap.size,1,none⟩=some (.int .i64 0):=aA hN.h4 1);(have k2:W2.cell? ⟨w.heap.size,2,none⟩=some (.string ⟨#[]⟩):=aA hN.h4 2);(have k3:W2.cell? ⟨w.heap.size,3,none⟩=some (.int .i64 0):=aA hN.h4 3);(have k4:W2.cell? ⟨w.heap.size,4,none⟩=some (.int .u64 0):=aA hN.h4 4);(have k5:W2.cell? ⟨w.heap.size+1,0,none⟩=some (.int .i64 0):=aA hN.h6 0);(have k6:W2.cell? ⟨w.heap.size+1,1,none⟩=some (.int .i64 0):=aA hN.h6 1);(have z4:=aC hN.h4);(have z6:=aC hN.h6);(have dL:=hid hN);clear hN))
           refine bodyPost_ret (dG rfl _ _ w.heap.size (w.heap.size+1) _ _ _ _ _ _ _ _ (0,0) (0,0) rfl rfl rfl (dL.out.fin _ _ _ _ _ _ _).1 (dL.out.fin _ _ _ _ _ _ _).2.1) rfl ?_
           exact⟨by rw[HR.out];rfl,(dL.out.fin _ _ _ _ _ _ _).2.2⟩
theorem I7(c:UInt8)(d:List UInt8)(h:c≠112):mO (c::d)=0:=by unfold mO;split <;> simp_all
theorem I6(c:UInt8)(d:List UInt8)(h1:c≠43)(h2:c≠45):mO (112::c::d)=1+runN bI (c::d):=by unfold mO;split <;> simp_all
theorem jh{c:UInt8}{n:Nat}(h:c.toNat=n):((c.toNat:Int)==(n:Int))=true:=by rw[h];simp
theorem fA{c:UInt8}{n:Nat}(h:¬c.toNat=n):((c.toNat:Int)==(n:Int))=false:=by
 rw[beq_eq_false_iff_ne];intro q;exact h (by omega)
theorem kH{c:UInt8}{n:Nat}(hn:n<256)(h:¬c.toNat=n):c≠n.toUInt8:=by
 intro q;apply h;rw[q];simp[Nat.toUInt8,UInt8.toNat_ofNat,Nat.mod_eq_of_lt hn]
theorem LU(s:ByteArray)(k1 K2 tE:Nat)(hk:k1<=s.size)(hK2:k1+1=K2)(hE:tE=k1+mO (s.data.toList.drop k1)) :
  (tE=k1/\(¬k1<s.size\/∃h:k1<s.size,((s[k1].toNat:Int)==112)=false))\/(∃h:k1<s.size,((s[k1].toNat:Int)==112)=true/\∃k3,k1<=k3/\(runN bI (s.data.toList.drop k3)+k3=tE/\k3<=s.size)/\((k3=K2+1/\∃h:K2<s.size,((s[K2].toNat:Int)==43)=true\/(((s[K2].toNat:Int)==43)=false/\((s[K2].toNat:Int)==45)=true))\/(k3=K2/\(¬K2<s.size\/∃h:K2<s.size,((s[K2].toNat:Int)==43)=false/\((s[K2].toNat:Int)==45)=false)))):=by
 by_cases h:k1<s.size
 ·have hd:=drop_cons s k1 h
  by_cases hp:s[k1].toNat=112
  ·right
   refine⟨h,jh hp,?_⟩
   have hc:s[k1]=112:=gQ hp
   rw[hd,hc,hK2] at hE
   by_cases h2:K2<s.size
   ·have hd2:=drop_cons s K2 h2
    rw[hd2] at hE
    by_cases g1:s[K2].toNat=43
    ·have hc2:s[K2]=43:=gQ g1
     rw[hc2] at hE
     have e:mO (112::43::s.data.toList.drop (K2+1))=2+runN bI (s.data.toList.drop (K2+1)):=rfl
     rw[e] at hE
     exact⟨K2+1,by omega,⟨by omega,by omega⟩,.inl ⟨rfl,h2,.inl (jh g1)⟩⟩
    ·by_cases g2:s[K2].toNat=45
     ·have hc2:s[K2]=45:=gQ g2
      rw[hc2] at hE
      have e:mO (112::45::s.data.toList.drop (K2+1))=2+runN bI (s.data.toList.drop (K2+1)):=rfl
      rw[e] at hE
      exact⟨K2+1,by omega,⟨by omega,by omega⟩,.inl ⟨rfl,h2,.inr ⟨fA g1,jh g2⟩⟩⟩
     ·rw[I6 _ _ (kH (by decide) g1) (kH (by decide) g2),<- hd2] at hE
      exact⟨K2,by omega,⟨by omega,by omega⟩,.inr ⟨rfl,.inr ⟨h2,fA g1,fA g2⟩⟩⟩
   ·rw[gL (by rw[size_list];omega)] at hE
    have e:mO [112]=1:=rfl
    rw[e] at hE
    refine⟨K2,by omega,⟨?_,by omega⟩,.inr ⟨rfl,.inl h2⟩⟩
    rw[gL (by rw[size_list];omega)]
    have e2:runN bI []=0:=rfl
    omega
  ·left
   rw[hd,I7 _ _ (kH (by decide) hp)] at hE
   exact⟨by omega,.inr ⟨h,fA hp⟩⟩
 ·left
  rw[gL (by rw[size_list];omega)] at hE
  have e:mO []=0:=rfl
  exact⟨by omega,.inl h⟩
theorem IL(s:ByteArray)(hs:s.size<=1000000)(a:Nat)(ha:a<s.size)(hd:bI s[a]=true)(w:World) :
  Calls prog 39 #[.string s,.int .i64 a] w λe w'=>e=.returned (yg (jK (fC (s.data.toList.drop a)) (fJ (s.data.toList.drop a))) a)/\Below w.heap.size w w':=by
 have hcs:=drop_cons s a ha
 by_cases hx:(s.data.toList.drop a).take 2=wu
 ·have ha1:a+1<s.size:=by
   have:=congrArg List.length hx
   rw[Gq,dI,size_list] at this
   have e:wu.length=2:=rfl
   omega
  have hcs1:=drop_cons s (a+1) ha1
  have hx':=hx
  rw[hcs,hcs1] at hx'
  have e0:s[a]=48:=(dR.inj hx').1
  have e1:s[a+1]=120:=(dR.inj (dR.inj hx').2).1
  have dd:∀m,(s.data.toList.drop a).drop m=s.data.toList.drop (a+m):=λm=>by rw[qV]
  obtain⟨k1,hk1⟩:∃k1,runN iN (s.data.toList.drop (a+2))+(a+2)=k1:=⟨_,rfl⟩
  obtain⟨n,hn⟩:∃n,sQ (s.data.toList.drop a)=n:=⟨_,rfl⟩
  have hl1:=gZ iN (s.data.toList.drop (a+2))
  rw[dI,size_list] at hl1
  have aAX:k1<=s.size:=by omega
  have hn':a+n=k1+mO (s.data.toList.drop k1):=by
   rw[<- hn]
   unfold sQ
   rw[dd,dd]
   have:a+(2+runN iN (s.data.toList.drop (a+2)))=k1:=by omega
   rw[this]
   omega
  have n0:n≠0:=by omega
  obtain⟨S,hS⟩:∃S,s.extract a (a+n)=S:=⟨_,rfl⟩
  have Q0:S.data.toList=(s.data.toList.drop a).take n:=by rw[<- hS,pK]
  have hSs:S.size<=1000000:=by
   rw[<- size_list,Q0,Gq,dI,size_list];omega
  have cp:=λw=>ny S (gI hSs (by unfold maxLen;decide)) w
  unfold L6 at cp
  rw[Q0] at cp
  refine EP s S hs a (a+1) (a+2) k1 (a+n) rfl rfl ha ha1 (by rw[e0];rfl) (by rw[e1];rfl) hk1 hS _ _ cp (k1+1) rfl (LU s k1 (k1+1) (a+n) aAX rfl hn') _ ?_ w
  have hdb:fC (s.data.toList.drop a)=if (iQ ((s.data.toList.drop a).take n)).2=0 then kN ⟨5,⟨#[]⟩,0,(iQ ((s.data.toList.drop a).take n)).1⟩ n else gG n 62:=by
   rw[<- hn];exact if_pos hx
  rw[hdb]
  by_cases hz:(iQ ((s.data.toList.drop a).take n)).2=0
  ·right
   refine⟨hz,?_⟩
   rw[if_pos hz]
   have:jK (kN ⟨5,⟨#[]⟩,0,(iQ ((s.data.toList.drop a).take n)).1⟩ n) (fJ (s.data.toList.drop a))=kN ⟨5,⟨#[]⟩,0,(iQ ((s.data.toList.drop a).take n)).1⟩ n:=if_neg n0
   rw[this,yZ _ n a n0]
  ·left
   refine⟨hz,?_⟩
   rw[if_neg hz]
   have:jK (gG n 62) (fJ (s.data.toList.drop a))=gG n 62:=if_neg n0
   rw[this,qm n 62 a n0 (by decide)]
 ·have hdb:fC (s.data.toList.drop a)=lJ:=if_neg hx
  rw[hdb,rV]
  obtain⟨n,hn⟩:∃n,runN bI (s.data.toList.drop a)=n:=⟨_,rfl⟩
  have n0:n≠0:=by rw[<- hn,hcs,dP hd];omega
  have hl:=gZ bI (s.data.toList.drop a)
  rw[dI,size_list] at hl
  obtain⟨S,hS⟩:∃S,s.extract a (a+n)=S:=⟨_,rfl⟩
  have Q0:S.data.toList=(s.data.toList.drop a).take n:=by rw[<- hS,pK]
  have hSs:S.size<=1000000:=by
   rw[<- size_list,Q0,Gq,dI,size_list];omega
  have cp:=λw=>xg S (gI hSs (by unfold maxLen;decide)) w
  rw[Q0] at cp
  have hw:fJ (s.data.toList.drop a)=if (kW ((s.data.toList.drop a).take n)).2=0 then kN ⟨4,⟨#[]⟩,(kW ((s.data.toList.drop a).take n)).1,0⟩ n else gG n 62:=by
   rw[<- hn];exact if_neg (by rw[hn];exact n0)
  rw[hw]
  refine CU s S hs a n (a+n) ha rfl n0 (by omega) hn hS _ _ cp ?_ _ ?_ w
  ·by_cases q0:s[a].toNat=48
   ·right
    refine⟨jh q0,?_⟩
    by_cases q1:a+1<s.size
    ·right
     refine⟨q1,fA ?_⟩
     intro q2
     apply hx
     have e0:s[a]=48:=gQ q0
     have e1:s[a+1]=120:=gQ q2
     rw[hcs,drop_cons s (a+1) q1,e0,e1]
     rfl
    ·left;omega
   ·exact .inl (fA q0)
  ·by_cases hz:(kW ((s.data.toList.drop a).take n)).2=0
   ·right
    refine⟨hz,?_⟩
    rw[if_pos hz,yZ _ n a n0]
   ·left
    refine⟨hz,?_⟩
    rw[if_neg hz,qm n 62 a n0 (by decide)]
def Pe(a:Nat):Value:=.tuple #[tv gX 0,.int .i64 (a:Nat),.agg #[.int .i64 61,.int .i64 (a:Nat)]]
def Di(s:ByteArray)(a f j:Nat)(acc:List UInt8):Value:=yg (bq f (s.data.toList.drop j) (j-a) acc) a
theorem PK(s:ByteArray)(a f j:Nat)(acc:List UInt8)(h1:a<j)(h:¬j<s.size):Di s a f j acc=Pe a:=by
 unfold Di Pe
 rw[gL (by rw[size_list];omega),jP,qm _ 61 a (by omega) (by decide)]
theorem M6(s:ByteArray)(a f j:Nat)(acc:List UInt8)(h1:a<j)(hf:0<f)(h:j<s.size)(hq:s[j].toNat=34):Di s a f j acc=.tuple #[tv ⟨6,bytesOf acc,0,0⟩ (a:Nat),.int .i64 ((j+1:Nat):Int),.agg #[.int .i64 0,.int .i64 0]]:=by
 unfold Di
 have e:a+(j-a+1)=j+1:=by omega
 rw[drop_cons s j h,iR f _ _ _ acc hf (gQ hq),yZ _ _ a (by omega),e]
theorem qB(s:ByteArray)(a f j:Nat)(acc:List UInt8)(h1:a<j)(hf:0<f)(h:j<s.size)(hq:¬s[j].toNat=34)(hz:(bZ (s.data.toList.drop j)).2=0):Di s a f j acc=Pe a:=by
 unfold Di Pe
 have hd:=drop_cons s j h
 rw[hd] at hz ⊢
 rw[jQ f _ _ _ acc hf (kH (by decide) hq) hz,qm _ 61 a (by omega) (by decide)]
theorem Ai(s:ByteArray)(a f j m:Nat)(c:UInt8)(acc:List UInt8)(h1:a<j)(h:j<s.size)(hq:¬s[j].toNat=34)(hm:m≠0)(hz:bZ (s.data.toList.drop j)=(c.toNat,m)):Di s a (f+1) j acc=Di s a f (j+m) (acc++[c]):=by
 unfold Di
 have hd:=drop_cons s j h
 have e2:(bZ (s.data.toList.drop j)).2=m:=by rw[hz]
 have e1:(bZ (s.data.toList.drop j)).1.toUInt8=c:=by rw[hz];simp
 have e3:j+m-a=j-a+m:=by omega
 rw[e3]
 have:=kM f (j-a) s[j] (s.data.toList.drop (j+1)) acc (kH (by decide) hq) (by rw[<- hd,e2];exact hm)
 rw[<- hd,e2,e1,qV] at this
 rw[this]
theorem RQ(s:ByteArray)(j:Nat)(h:j<s.size)(h1:¬s[j].toNat<32)(h2:¬126<s[j].toNat)(h3:¬s[j].toNat=92):bZ (s.data.toList.drop j)=(s[j].toNat,1):=by
 rw[drop_cons s j h]
 exact(nS _ _).2 (by omega) (kH (by decide) h3)
theorem OC(s:ByteArray)(j:Nat)(h:j<s.size)(h1:s[j].toNat<32\/126<s[j].toNat):(bZ (s.data.toList.drop j)).2=0:=by
 rw[drop_cons s j h,(nS _ _).1 h1]
theorem OE(s:ByteArray)(j J1:Nat)(mR:j+1=J1)(h:j<s.size)(h1:s[j].toNat=92)(h2:¬J1<s.size):(bZ (s.data.toList.drop j)).2=0:=by
 subst mR
 have e:s[j]=92:=gQ h1
 rw[drop_cons s j h,e,(jy _).1 (gL (by rw[size_list];omega))]
theorem OB(s:ByteArray)(j J1 J2 J3:Nat)(mR:j+1=J1)(hJ2:j+2=J2)(hJ3:j+3=J3)(h:j<s.size)(h1:s[j].toNat=92)(h2:J1<s.size)(h3:s[J1].toNat=92\/s[J1].toNat=34):bZ (s.data.toList.drop j)=(s[J1].toNat,2):=by
 subst mR;subst hJ2;subst hJ3
 have e:s[j]=92:=gQ h1
 rw[drop_cons s j h,e]
 obtain⟨k1,k2,k3,k4,k5⟩:=(jy (s.data.toList.drop (j+1))).2 _ _ (drop_cons s (j+1) h2)
 rcases h3 with h3|h3
 ·rw[k1 (gQ h3),h3]
 ·rw[k2 (gQ h3),h3]
theorem OD(s:ByteArray)(j J1 J2 J3:Nat)(mR:j+1=J1)(hJ2:j+2=J2)(hJ3:j+3=J3)(h:j<s.size)(h1:s[j].toNat=92)(h2:J1<s.size)(h3:s[J1].toNat=110):bZ (s.data.toList.drop j)=((10:UInt8).toNat,2):=by
 subst mR;subst hJ2;subst hJ3
 have e:s[j]=92:=gQ h1
 rw[drop_cons s j h,e]
 obtain⟨k1,k2,k3,k4,k5⟩:=(jy (s.data.toList.drop (j+1))).2 _ _ (drop_cons s (j+1) h2)
 rw[k3 (gQ h3)];rfl
theorem Kc(s:ByteArray)(j J1 J2 J3:Nat)(mR:j+1=J1)(hJ2:j+2=J2)(hJ3:j+3=J3)(h:j<s.size)(h1:s[j].toNat=92)(h2:J1<s.size)(g1:¬s[J1].toNat=92)(g2:¬s[J1].toNat=34)(g3:¬s[J1].toNat=110)(g4:¬s[J1].toNat=120):(bZ (s.data.toList.drop j)).2=0:=by
 subst mR;subst hJ2;subst hJ3
 have e:s[j]=92:=gQ h1
 rw[drop_cons s j h,e]
 obtain⟨k1,k2,k3,k4,k5⟩:=(jy (s.data.toList.drop (j+1))).2 _ _ (drop_cons s (j+1) h2)
 rw[k5 (kH (by decide) g1) (kH (by decide) g2) (kH (by decide) g3) (kH (by decide) g4)]
theorem RS(s:ByteArray)(j J1 J2 J3:Nat)(mR:j+1=J1)(hJ2:j+2=J2)(hJ3:j+3=J3)(h:j<s.size)(h1:s[j].toNat=92)(h2:J1<s.size)(h3:s[J1].toNat=120)(h4:J2<s.size)(h5:J3<s.size) :
  (0<=bT s[J2]->0<=bT s[J3]->∃c:UInt8,(c.toNat:Int)=16*bT s[J2]+bT s[J3]/\bZ (s.data.toList.drop j)=(c.toNat,4))/\((¬0<=bT s[J2]\/¬0<=bT s[J3])->(bZ (s.data.toList.drop j)).2=0):=by
 subst mR;subst hJ2;subst hJ3
 have e:s[j]=92:=gQ h1
 have e':s[j+1]=120:=gQ h3
 have hd:s.data.toList.drop j=92::120::s[j+2]::s[j+3]::s.data.toList.drop (j+4):=by
  rw[drop_cons s j h,drop_cons s (j+1) h2,drop_cons s (j+2) h4,drop_cons s (j+3) h5,e,e']
 have hs:bZ (s.data.toList.drop j)=if dY s[j+2]=true/\dY s[j+3]=true then ((16*bT s[j+2]+bT s[j+3]).toNat,4) else (0,0):=by
  rw[hd];rfl
 constructor
 ·intro a b
  have:=mD s[j+2]
  have:=mD s[j+3]
  refine⟨(16*bT s[j+2]+bT s[j+3]).toNat.toUInt8,?_,?_⟩
  ·simp;omega
  ·rw[hs,if_pos ⟨decide_eq_true a,decide_eq_true b⟩]
   congr 1
   simp;omega
 ·intro a
  rw[hs,if_neg]
  rintro⟨b1,b2⟩
  have b1:0<=bT s[j+2]:=of_decide_eq_true b1
  have b2:0<=bT s[j+3]:=of_decide_eq_true b2
  rcases a with a|a
  ·exact a b1
  ·exact a b2
theorem Ka(s:ByteArray)(j J1 J2 J3:Nat)(mR:j+1=J1)(hJ2:j+2=J2)(hJ3:j+3=J3)(h:j<s.size)(h1:s[j].toNat=92)(h2:J1<s.size)(h3:s[J1].toNat=120)(h4:¬J3<s.size):(bZ (s.data.toList.drop j)).2=0:=by
 subst mR;subst hJ2;subst hJ3
 have e:s[j]=92:=gQ h1
 have hl:(s.data.toList.drop (j+1)).length<3:=by rw[dI,size_list];omega
 rw[drop_cons s j h,e]
 obtain⟨k1,k2,k3,k4,k5⟩:=(jy (s.data.toList.drop (j+1))).2 _ _ (drop_cons s (j+1) h2)
 rw[k4 (gQ h3),uR _ (by rw[List.length_cons];omega)]
theorem vL{a j f n m J L:Nat}(h1:a<j)(h3:n<=j+(f+1))(h4:L<=j)(eJ:j+m=J)(hm:0<m)(hJ:J<=n):a<J/\n<=J+f/\L+1<=J/\j<J:=by omega
theorem z8{j J1 J2 n:Nat}(mR:j+1=J1)(hJ2:j+2=J2)(d:J1<n):J2<=n:=by omega
theorem one_le{j J1 n:Nat}(mR:j+1=J1)(d:j<n):J1<=n:=by omega
theorem steps{j J1 J2 J3 n:Nat}(mR:j+1=J1)(hJ2:j+2=J2)(hJ3:j+3=J3)(h:j<=n):J1<=n+1/\J1+1=J2/\J1+2=J3:=by omega
theorem KT{j J2 J3 n:Nat}(hJ2:j+2=J2)(hJ3:j+3=J3)(d:J3<n):J2<n:=by omega
theorem Ab{L j n:Nat}(h4:L<=j)(h:j<=n)(hn:n<=1000000):L+1<=2000000:=by omega
theorem vF{f:Nat}(h:0<f):∃g,f=g+1:=⟨f-1,by omega⟩
theorem rz{n j J:Nat}(h:j<J)(h2:J<=n):n-(intOf (.int .i64 (J:Int))).toNat<n-(intOf (.int .i64 (j:Int))).toNat:=by
 simp[intOf];omega
theorem Ju{s:ByteArray}(hs:s.size<=1000000){j m:Nat}(hj:j<=s.size+1)(h:j+2=m):dQ.wrap ((j:Int)+2)=(m:Int)/\wrap64 ((j:Int)+2)=(m:Int):=by
 constructor
 ·rw[eU];omega
 ·unfold wrap64;omega
theorem BK.cells{w W:World}(h:BK w W):W.cell? ⟨w.heap.size,0,none⟩=some (.int .i64 0)/\W.cell? ⟨w.heap.size,1,none⟩=some (.int .i64 0)/\W.cell? ⟨w.heap.size,2,none⟩=some (.string ⟨#[]⟩)/\W.cell? ⟨w.heap.size,3,none⟩=some (.int .i64 0)/\W.cell? ⟨w.heap.size,4,none⟩=some (.int .u64 0)/\W.cell? ⟨w.heap.size+1,0,none⟩=some (.int .i64 0)/\W.cell? ⟨w.heap.size+1,1,none⟩=some (.int .i64 0):=
 ⟨aA h.h4 0,aA h.h4 1,aA h.h4 2,aA h.h4 3,aA h.h4 4,aA h.h6 0,aA h.h6 1⟩
theorem BK.grown{w W W':World}(h:BK w W){v:Value}{n:Nat}{xs:List Value}(o:W.ownsRow w.heap.size 5 1 v n xs)(g:W.grownBy W' v.ownBlock)(hl:∀k,v.ownBlock=some k->w.heap.size<=k):BK w W':=
  ⟨h.bf.grown g h.bf.size hl,
   (((It.bL.refl (λj=>_) _).grown g (λj e=>.inl e)).block w.heap.size (U6.1 h.h4).1 (GL o h.h4 (by decide))).trans h.h4,
   (((It.bL.refl (λj=>_) _).grown g (λj e=>.inl e)).block (w.heap.size+1) (U6.1 h.h6).1 (GL o h.h6 (by decide))).trans h.h6⟩
theorem Gb{j J3 J4 n:Nat}(hJ3:j+3=J3)(Q6:j+4=J4)(d:J3<n):J4<=n:=by omega
theorem KS{j J3 n:Nat}(hJ3:j+3=J3)(d:J3<n):J3<=n+1:=by omega
theorem Dv{j J3 J4:Nat}(hJ3:j+3=J3)(Q6:j+4=J4):J3+1=J4:=by omega
theorem PE(x y c:UInt8)(h1:0<=bT x)(h2:0<=bT y)(h:(c.toNat:Int)=16*bT x+bT y):dQ.wrap (16*bT x)=16*bT x/\wrap64 (16*bT x)=16*bT x/\dQ.wrap (16*bT x+bT y)=(c.toNat:Int)/\wrap64 (16*bT x+bT y)=(c.toNat:Int)/\IntKind.u8.wrap (c.toNat:Int)=(c.toNat:Int)/\((c.toNat:Int)%256=(c.toNat:Int)):=by
 have a1:=mD x
 have a2:=mD y
 have a3:=c.toNat_lt
 refine⟨?_,?_,?_,?_,?_,?_⟩
 ·rw[eU];omega
 ·unfold wrap64;omega
 ·rw[eU];omega
 ·unfold wrap64;omega
 ·simp[IntKind.wrap,IntKind.signed,IntKind.bits];omega
 ·omega
theorem EM(s:ByteArray)(hs:s.size<=1000000)(a F:Nat)(ha:a<s.size)(hF:s.size<=a+1+F)(RV:Value)(hR:Di s a F (a+1) []=RV)(w:World) :
  Calls prog 40 #[.string s,.int .i64 a] w λe w'=>e=.returned RV/\Below w.heap.size w w':=by
 have cf:=oU 61 a
 simp only[tv,gX] at cf
 have hN:=BK.start w
 obtain⟨a2,a3⟩:=kG hs (ay (Nat.le_of_lt ha)) (rfl:a+1=a+1)
 have HS:=hid hs
 have HA:=hid ha
 have HF:=hid hF
 have XF:=hid hR
 obtain⟨i0,hi,hz0,hz1,hz2⟩:=info_parts DF
 clear hs ha hF hR
 go_enter func40,ntmps40
 go_upto_region 1 with fail
 generalize lH (lH w _) _=W at *
 have hO:=World.ownsRow_lit (base:=w.heap.size) (e:=5) (size:=1) W #[] 0 hN.bf.size (by simp) (by simp)
 replace hN:=hN.go ((jl _ W).alloc (aY _) (.cells #[] 5))
 have HO:=hid hO
 clear hO
 go_upto_region 2 with fail
 generalize lH W _=W3 at *
 have HN:=hid hN
 clear hN
 go_wp2_with fail
 clear a2 a3
 go_loopw [7,8,9] (λv i _ wr=>∃ (j f:Nat) (acc:List UInt8),i=.int .i64 j/\a<j/\j<=s.size/\s.size<=j+f/\acc.length<=j/\Di s a f j acc=RV/\wr.ownsRow w.heap.size 5 1 v acc.length (pQ acc)/\BK w wr) (λ_ i _ _=>s.size-(intOf i).toNat)
 case atStart=>exact⟨a+1,F,[],rfl,Nat.lt_succ_self a,HA.out,HF.out,Nat.zero_le _,XF.out,HO.out,HN.out⟩
 case round=>
  obtain⟨j,f,acc,rfl,h1,h2,h3,h4,hgo,hown,hN⟩:=hrel
  clear HO HN XF
  have c0:(0:Int)<=(j:Int):=bO j
  by_cases c:j<s.size
  ·have c1:(j:Int)<(s.size:Int):=aL.2 c
   have f0:0<f:=by omega
   by_cases q:s[j].toNat=34
   ·have HR:=hid ((M6 s a f j acc h1 f0 c q).symm.trans hgo)
    have q1:((s[j].toNat:Int)==34)=true:=jh q
    have kc:=DW _ hown
    obtain⟨w1,w2⟩:=kG HS.out (ay h2) (rfl:j+1=j+1)
    obtain⟨k0,k1,k2,k3,k4,k5,k6⟩:=hN.cells
    have z4:=aC hN.h4
    have z6:=aC hN.h6
    have dL:=hid hN
    clear hgo hown hN h1 h2 h3 h4 q f0
    go_wp2_with fail
    refine bodyPost_ret (dG rfl _ _ w.heap.size (w.heap.size+1) _ _ _ _ _ _ _ _ (0,0) (0,0) rfl rfl rfl (dL.out.fin _ _ _ _ _ _ _).1 (dL.out.fin _ _ _ _ _ _ _).2.1) rfl ?_
    exact⟨by rw[<- HR.out];rfl,(dL.out.fin _ _ _ _ _ _ _).2.2⟩
   ·by_cases u:s[j].toNat<32\/126<s[j].toNat
    ·have HR:=hid ((qB s a f j acc h1 f0 c q (OC s j c u)).symm.trans hgo)
     have q1:((s[j].toNat:Int)==34)=false:=fA q
     clear hgo hown h1 h2 h3 h4 f0 q
     rcases u with u|u
     ·have u1:(s[j].toNat:Int)<32:=by omega
      clear u
      go_wp2_with (go_at_call 42;(with_reducible refine(cf _).mono ?_);rintro e W2 ⟨rfl,hb⟩;(replace hN:=hN.go hb);clear hb;(have k0:W2.cell? ⟨w.heap.size,0,none⟩=some (.int .i64 0):=aA hN.h4 0);(have k1:W2.cell? ⟨w.heap.size,1,none⟩=some (.int .i64 0):=aA hN.h4 1);(have k2:W2.cell? ⟨w.heap.size,2,none⟩=some (.string ⟨#[]⟩):=aA hN.h4 2);(have k3:W2.cell? ⟨w.heap.size,3,none⟩=some (.int .i64 0):=aA hN.h4 3);(have k4:W2.cell? ⟨w.heap.size,4,none⟩=some (.int .u64 0):=aA hN.h4 4);(have k5:W2.cell? ⟨w.heap.size+1,0,none⟩=some (.int .i64 0):=aA hN.h6 0);(have k6:W2.cell? ⟨w.heap.size+1,1,none⟩=some (.int .i64 0):=aA hN.h6 1);(have z4:=aC hN.h4);(have z6:=aC hN.h6);(have dL:=hid hN);clear hN)
      refine bodyPost_ret (dG rfl _ _ w.heap.size (w.heap.size+1) _ _ _ _ _ _ _ _ (0,0) (0,0) rfl rfl rfl (dL.out.fin _ _ _ _ _ _ _).1 (dL.out.fin _ _ _ _ _ _ _).2.1) rfl ?_
      exact⟨by rw[<- HR.out];rfl,(dL.out.fin _ _ _ _ _ _ _).2.2⟩
     ·have u1:¬ (s[j].toNat:Int)<32:=by omega
      have u2:(s[j].toNat:Int)>126:=by omega
      clear u
      go_wp2_with (go_at_call 42;(with_reducible refine(cf _).mono ?_);rintro e W2 ⟨rfl,hb⟩;(replace hN:=hN.go hb);clear hb;(have k0:W2.cell? ⟨w.heap.size,0,none⟩=some (.int .i64 0):=aA hN.h4 0);(have k1:W2.cell? ⟨w.heap.size,1,none⟩=some (.int .i64 0):=aA hN.h4 1);(have k2:W2.cell? ⟨w.heap.size,2,none⟩=some (.string ⟨#[]⟩):=aA hN.h4 2);(have k3:W2.cell? ⟨w.heap.size,3,none⟩=some (.int .i64 0):=aA hN.h4 3);(have k4:W2.cell? ⟨w.heap.size,4,none⟩=some (.int .u64 0):=aA hN.h4 4);(have k5:W2.cell? ⟨w.heap.size+1,0,none⟩=some (.int .i64 0):=aA hN.h6 0);(have k6:W2.cell? ⟨w.heap.size+1,1,none⟩=some (.int .i64 0):=aA hN.h6 1);(have z4:=aC hN.h4);(have z6:=aC hN.h6);(have dL:=hid hN);clear hN)
      refine bodyPost_ret (dG rfl _ _ w.heap.size (w.heap.size+1) _ _ _ _ _ _ _ _ (0,0) (0,0) rfl rfl rfl (dL.out.fin _ _ _ _ _ _ _).1 (dL.out.fin _ _ _ _ _ _ _).2.1) rfl ?_
      exact⟨by rw[<- HR.out];rfl,(dL.out.fin _ _ _ _ _ _ _).2.2⟩
    ·have u1:¬ (s[j].toNat:Int)<32:=by omega
     have u2:¬ (s[j].toNat:Int)>126:=by omega
     have v1:¬s[j].toNat<32:=by omega
     have v2:¬126<s[j].toNat:=by omega
     clear u
     have q1:((s[j].toNat:Int)==34)=false:=fA q
     obtain⟨J1,mR⟩:∃J1,j+1=J1:=⟨_,rfl⟩
     have HW1:=hid (kG HS.out (ay h2) mR)
     by_cases b:s[j].toNat=92
     ·have b1:((s[j].toNat:Int)!=92)=false:=by rw[b];rfl
      obtain⟨J2,hJ2⟩:∃J2,j+2=J2:=⟨_,rfl⟩
      obtain⟨J3,hJ3⟩:∃J3,j+3=J3:=⟨_,rfl⟩
      have BL:=hid (kG HS.out (steps mR hJ2 hJ3 h2).1 (steps mR hJ2 hJ3 h2).2.1)
      have Gp:=hid (Ju HS.out (steps mR hJ2 hJ3 h2).1 (steps mR hJ2 hJ3 h2).2.2)
      have d0:(0:Int)<=(J1:Int):=bO J1
      by_cases d:J1<s.size
      ·have d1:(J1:Int)<(s.size:Int):=aL.2 d
       have d2:¬J1=s.size:=by omega
       by_cases g1:s[J1].toNat=92\/s[J1].toNat=34
       ·obtain⟨f',rfl⟩:∃f',f=f'+1:=vF f0
        have nk:=vL h1 h3 h4 hJ2 (by decide) (z8 mR hJ2 d)
        have HM:=hid nk.2.2.2
        have eJ:=hJ2
        have HX:=hid (show a<J2/\J2<=s.size/\s.size<=J2+f'/\(acc++[s[J1]]).length<=J2/\Di s a f' J2 (acc++[s[J1]])=RV from⟨nk.1,(z8 mR hJ2 d),nk.2.1,by rw[bY,BR];exact nk.2.2.1,by rw[<- eJ];exact(Ai s a f' j 2 s[J1] acc h1 c q (by decide) (OB s j J1 J2 J3 mR hJ2 hJ3 c b d g1)).symm.trans hgo⟩)
        have HL:=hid (Ab h4 h2 HS.out)
        have HO:=hid hown
        have HN:=hid hN
        have g1':((s[J1].toNat:Int)==92)=true\/(((s[J1].toNat:Int)==92)=false/\((s[J1].toNat:Int)==34)=true):=by
         by_cases g:s[J1].toNat=92
         ·exact .inl (jh g)
         ·exact .inr ⟨fA g,jh (g1.resolve_left g)⟩
        clear hgo hown hN h1 h2 h3 h4 f0 q v1 v2 b g1 eJ nk mR hJ2 hJ3
        obtain⟨w1,w2⟩:=HW1.out
        obtain⟨x1,x2⟩:=BL.out
        clear HW1 BL Gp
        rcases g1' with g1'|⟨g1',g2'⟩
        ·skip
         go_wp2_with ((at_builtin;refine wpList_append_own _ rfl _ _ 100 rfl w.heap.size 5 i0 (.int .u8 0) 1 1 underlying100 hi hz0 hz1 hz2 rfl (by decide) _ _ _ rfl (HO.out.alloc _) ⟨_,0,none⟩ 1 1 [.int .u8 s[J1].toNat] rfl rfl ?ea1 ?ea2 ?ea3 ?ea4 ?ea5 ?_))
         case ea2=>first|(intro u hu;simp at hu;subst hu;rfl)|rfl|(simp;done)
         case ea3=>have:=HL.out;first|omega|(unfold maxLen;omega)
         case ea4=>have:=HL.out;omega
         case ea5=>have:=HN.out.bf.size;first|omega|(simp;omega)
         ·intro v' w1 hown' hgrow _
          have R1:=hid (jU acc s[J1] s[J1].toNat rfl)
          have RN:=hid ((HN.out.go ((jl _ _).alloc (aY _) (.cells #[.int .u8 s[J1].toNat] 5))).grown (HO.out.alloc _) hgrow (λk e=>(HO.out.lt k e).1))
          clear hgrow HO HN
          go_wp2
          go_roundw
          case rel=>exact⟨J2,f',acc++[s[J1]],by first|rfl|go_num,HX.out.1,HX.out.2.1,HX.out.2.2.1,HX.out.2.2.2.1,HX.out.2.2.2.2,by have:=R1.out;rw[this,bY];exact hown',RN.out⟩
          case measure=>exact rz HM.out HX.out.2.1
        ·skip
         go_wp2_with ((at_builtin;refine wpList_append_own _ rfl _ _ 100 rfl w.heap.size 5 i0 (.int .u8 0) 1 1 underlying100 hi hz0 hz1 hz2 rfl (by decide) _ _ _ rfl (HO.out.alloc _) ⟨_,0,none⟩ 1 1 [.int .u8 s[J1].toNat] rfl rfl ?eb1 ?X7 ?eb3 ?eb4 ?eb5 ?_))
         case X7=>first|(intro u hu;simp at hu;subst hu;rfl)|rfl|(simp;done)
         case eb3=>have:=HL.out;first|omega|(unfold maxLen;omega)
         case eb4=>have:=HL.out;omega
         case eb5=>have:=HN.out.bf.size;first|omega|(simp;omega)
         ·intro v' w1 hown' hgrow _
          have R1:=hid (jU acc s[J1] s[J1].toNat rfl)
          have RN:=hid ((HN.out.go ((jl _ _).alloc (aY _) (.cells #[.int .u8 s[J1].toNat] 5))).grown (HO.out.alloc _) hgrow (λk e=>(HO.out.lt k e).1))
          clear hgrow HO HN
          go_wp2
          go_roundw
          case rel=>exact⟨J2,f',acc++[s[J1]],by first|rfl|go_num,HX.out.1,HX.out.2.1,HX.out.2.2.1,HX.out.2.2.2.1,HX.out.2.2.2.2,by have:=R1.out;rw[this,bY];exact hown',RN.out⟩
          case measure=>exact rz HM.out HX.out.2.1
       ·by_cases g2:s[J1].toNat=110
        ·obtain⟨f',rfl⟩:∃f',f=f'+1:=vF f0
         have nk:=vL h1 h3 h4 hJ2 (by decide) (z8 mR hJ2 d)
         have HM:=hid nk.2.2.2
         have eJ:=hJ2
         have HX:=hid (show a<J2/\J2<=s.size/\s.size<=J2+f'/\(acc++[10]).length<=J2/\Di s a f' J2 (acc++[10])=RV from⟨nk.1,(z8 mR hJ2 d),nk.2.1,by rw[bY,BR];exact nk.2.2.1,by rw[<- eJ];exact(Ai s a f' j 2 10 acc h1 c q (by decide) (OD s j J1 J2 J3 mR hJ2 hJ3 c b d g2)).symm.trans hgo⟩)
         have HL:=hid (Ab h4 h2 HS.out)
         have HO:=hid hown
         have HN:=hid hN
         have g3:((s[J1].toNat:Int)==92)=false:=fA (λq=>g1 (.inl q))
         have g4:((s[J1].toNat:Int)==34)=false:=fA (λq=>g1 (.inr q))
         have g5:((s[J1].toNat:Int)==110)=true:=jh g2
         clear hgo hown hN h1 h2 h3 h4 f0 q v1 v2 b g1 g2 eJ nk mR hJ2 hJ3
         obtain⟨w1,w2⟩:=HW1.out
         obtain⟨x1,x2⟩:=BL.out
         clear HW1 BL Gp
         go_wp2_with ((at_builtin;refine wpList_append_own _ rfl _ _ 100 rfl w.heap.size 5 i0 (.int .u8 0) 1 1 underlying100 hi hz0 hz1 hz2 rfl (by decide) _ _ _ rfl (HO.out.alloc _) ⟨_,0,none⟩ 1 1 [Value.int .u8 (10:Int)] (by rfl) (by rfl) ?ec1 ?ec2 ?ec3 ?ec4 ?ec5 ?_))
         case ec2=>first|(intro u hu;simp at hu;subst hu;rfl)|rfl|(simp;done)
         case ec3=>have:=HL.out;first|omega|(unfold maxLen;omega)
         case ec4=>have:=HL.out;omega
         case ec5=>have:=HN.out.bf.size;first|omega|(simp;omega)
         ·intro v' w1 hown' hgrow _
          have R1:=hid (jU acc 10 10 rfl)
          have RN:=hid ((HN.out.go ((jl _ _).alloc (aY _) (.cells #[.int .u8 10] 5))).grown (HO.out.alloc _) hgrow (λk e=>(HO.out.lt k e).1))
          clear hgrow HO HN
          go_wp2
          go_roundw
          case rel=>exact⟨J2,f',acc++[10],by first|rfl|go_num,HX.out.1,HX.out.2.1,HX.out.2.2.1,HX.out.2.2.2.1,HX.out.2.2.2.2,by have:=R1.out;rw[this,bY];exact hown',RN.out⟩
          case measure=>exact rz HM.out HX.out.2.1
        ·have g3:((s[J1].toNat:Int)==92)=false:=fA (λq=>g1 (.inl q))
         have g4:((s[J1].toNat:Int)==34)=false:=fA (λq=>g1 (.inr q))
         have g5:((s[J1].toNat:Int)==110)=false:=fA g2
         by_cases g6:s[J1].toNat=120
         ·have g7:((s[J1].toNat:Int)==120)=true:=jh g6
          by_cases d3:J3<s.size
          ·have e3:(J3:Int)<(s.size:Int):=aL.2 d3
           have d2':J2<s.size:=KT hJ2 hJ3 d3
           have e2:(J2:Int)<(s.size:Int):=aL.2 d2'
           have n2:(0:Int)<=(J2:Int):=bO J2
           have n3:(0:Int)<=(J3:Int):=bO J3
           have sS:=EO s[J2]
           have xI:=EO s[J3]
           obtain⟨hx1,hx2⟩:=RS s j J1 J2 J3 mR hJ2 hJ3 c b d g6 d2' d3
           by_cases p2:0<=bT s[J2]
           ·by_cases p3:0<=bT s[J3]
            ·obtain⟨f',rfl⟩:∃f',f=f'+1:=vF f0
             obtain⟨J4,Q6⟩:∃J4,j+4=J4:=⟨_,rfl⟩
             obtain⟨cc,hcc,hsp⟩:=hx1 p2 p3
             have nk:=vL h1 h3 h4 Q6 (by decide) (Gb hJ3 Q6 d3)
             have HM:=hid nk.2.2.2
             have eJ:=Q6
             have HX:=hid (show a<J4/\J4<=s.size/\s.size<=J4+f'/\(acc++[cc]).length<=J4/\Di s a f' J4 (acc++[cc])=RV from⟨nk.1,(Gb hJ3 Q6 d3),nk.2.1,by rw[bY,BR];exact nk.2.2.1,by rw[<- eJ];exact(Ai s a f' j 4 cc acc h1 c q (by decide) hsp).symm.trans hgo⟩)
             have HL:=hid (Ab h4 h2 HS.out)
             have HO:=hid hown
             have HN:=hid hN
             have HZ1:=hid (kG HS.out (KS hJ3 d3) (Dv hJ3 Q6))
             have HH:=hid (PE s[J2] s[J3] cc p2 p3 hcc)
             clear hx1 hx2 hcc hsp
             clear hgo hown hN h1 h2 h3 h4 f0 q v1 v2 b g1 g2 eJ nk mR hJ2 hJ3 Q6 g6
             generalize bT s[J2]=U8 at *
             generalize bT s[J3]=Xg at *
             obtain⟨w1,w2⟩:=HW1.out
             obtain⟨x1,x2⟩:=BL.out
             clear HW1 BL
             have HQ:=hid (aH sS (aH xI (aH e2 (aH e3 (aH n2 (aH n3 (aH p2 p3)))))))
             have G7:=hid g7
             clear sS xI e2 e3 n2 n3 p2 p3 g7
             go_upto_region 17 with fail
             obtain⟨sS,xI,e2,e3,n2,n3,p2,p3⟩:=HQ.out
             obtain⟨y1,y2⟩:=Gp.out
             have g7:=G7.out
             have p2':U8≥0:=p2
             have p3':Xg≥0:=p3
             clear HQ Gp G7
             go_upto_region 18 with((with_reducible (apply Calls.mono;first|exact sS _|exact xI _));rintro e w' ⟨rfl,hw⟩;(have hw':=hw.symm);subst hw';clear hw)
             obtain⟨v',W6,hrun,hown',hgrow,_⟩:=run_append_own (P:=prog) (w:=(wr.alloc (.cells #[.int .u8 cc.toNat] 5)).drew) w.heap.size 100 100 5 i0 (.int .u8 0) 1 1 underlying100 hi hz0 hz1 hz2 rfl (by decide) _ _ _ (HO.out.alloc (.cells #[.int .u8 cc.toNat] 5)).drew ⟨wr.heap.size,0,none⟩ 1 1 [.int .u8 cc.toNat] rfl (by intro j u hj;match j,hj with|0,hj=>simp at hj;subst hj;exact World.cell?_alloc_new wr #[Value.int .u8 cc.toNat] 5 0) (by intro u hu;simp at hu;subst hu;rfl) (by have:=HL.out;unfold maxLen;omega) (by have:=HL.out;omega) (by have:=HN.out.bf.size;simp;omega)
             obtain⟨h5a,h5b,h5c,h5d,h5e,h5f⟩:=HH.out
             have hS:True:=trivial
             (refine wp_region_held_drew (S:=λ_=>True) (by kernel_rfl) trivial ?_);intro hS2
             iterate 5 ((refine It.nH 0 ?_ rfl (by kernel_rfl) (λ_ _ _ h=>h) (Or.inl ⟨by rfl,?_⟩) trivial ?_);rotate_left;focus (intro w' hSw;go_simp;(try with_reducible rfl));(try simp only[Act.put,aW,aV,aU,aT,aS,aR]))
             iterate 4 ((refine It.nH 7 ?_ rfl (by kernel_rfl) (λ_ _ _ h=>h) (Or.inl ⟨by rfl,?_⟩) trivial ?_);rotate_left;focus (intro w' hSw;go_simp;(try with_reducible rfl));(try simp only[Act.put,aW,aV,aU,aT,aS,aR]))
             (refine wpAnyH_ready (rs:=[5]) (by kernel_rfl) (by simp) ?_);(refine BQ rfl (λK hK=>?_) Dp);go_simp;(refine(sS _).mono ?_);rintro e w' ⟨rfl,hw⟩;(have hw':=hw.symm);subst hw';clear hw;(refine hK.out _ _ trivial (λhS=>?_));clear hK K;(try simp only[Act.put,aW,aV,aU,aT,aS,aR])
             (refine It.nH 6 ?_ rfl (by kernel_rfl) (λ_ _ _ h=>h) (Or.inl ⟨by rfl,?_⟩) trivial ?_);rotate_left;focus (intro w' hSw;go_simp;(try with_reducible rfl));(try simp only[Act.put,aW,aV,aU,aT,aS,aR])
             (refine wpAnyH_ready (rs:=[11]) (by kernel_rfl) (by simp) ?_);(refine BQ rfl (λK hK=>?_) Dp);go_simp;(refine(xI _).mono ?_);rintro e w' ⟨rfl,hw⟩;(have hw':=hw.symm);subst hw';clear hw;(refine hK.out _ _ trivial (λhS=>?_));clear hK K;(try simp only[Act.put,aW,aV,aU,aT,aS,aR])
             iterate 2 ((refine It.nH 12 ?_ rfl (by kernel_rfl) (λ_ _ _ h=>h) (Or.inl ⟨by rfl,?_⟩) trivial ?_);rotate_left;focus (intro w' hSw;go_simp;(try with_reducible rfl));(try simp only[Act.put,aW,aV,aU,aT,aS,aR]))
             (refine wpAnyH_ready (rs:=[14]) (by kernel_rfl) (by simp) ?_);(refine BQ rfl (λK hK=>?_) Dp);go_simp;(refine hK.out _ _ trivial (λhS=>?_));clear hK K;(try simp only[Act.put,aW,aV,aU,aT,aS,aR])
             (refine wpAnyH_ready (rs:=[15]) (by kernel_rfl) (by simp) ?_);(refine BQ rfl (λK hK=>?_) Dp)
             rw[if_pos (by rfl)]
             refine Lib.wp_append_run _ (.tmp 99) (.tmp 113) 100 100 rfl _ _ rfl rfl _ _ hrun ?_
             refine hK.out _ _ trivial (λhS=>?_)
             clear hK K hrun
             (try simp only[Act.put,aW,aV,aU,aT,aS,aR])
             (refine It.nH 16 ?_ rfl (by kernel_rfl) (λ_ _ _ h=>h) (Or.inl ⟨by rfl,?_⟩) trivial ?_);rotate_left;focus (intro w' hSw;go_simp;(try with_reducible rfl));(try simp only[Act.put,aW,aV,aU,aT,aS,aR])
             refine wpAnyH_done (by kernel_rfl) ?_ _
             have R1:=hid (jU acc cc cc.toNat rfl)
             have RN:=hid ((HN.out.go (((jl _ wr).alloc (aY _) (.cells #[.int .u8 cc.toNat] 5)).drew)).grown (HO.out.alloc _).drew hgrow (λk e=>(HO.out.lt k e).1))
             obtain⟨t1,t2⟩:=HZ1.out
             clear hgrow HO HN h5a h5b h5c h5d h5e h5f HH sS xI
             go_wp2
             go_roundw
             case rel=>exact⟨J4,f',acc++[cc],by first|rfl|go_num,HX.out.1,HX.out.2.1,HX.out.2.2.1,HX.out.2.2.2.1,HX.out.2.2.2.2,by have:=R1.out;rw[this,bY];exact hown',RN.out⟩
             case measure=>exact rz HM.out HX.out.2.1
            ·have HR:=hid ((qB s a f j acc h1 f0 c q (hx2 (.inr p3))).symm.trans hgo)
             clear hx1 hx2
             clear hgo hown h1 h2 h3 h4 f0 q v1 v2 b g1 g2 mR hJ2 hJ3
             generalize bT s[J2]=U8 at *
             generalize bT s[J3]=Xg at *
             obtain⟨w1,w2⟩:=HW1.out
             obtain⟨x1,x2⟩:=BL.out
             have HQ:=hid (aH sS (aH xI (aH e2 (aH e3 (aH n2 (aH n3 (aH p2 (aH p3 g7))))))))
             clear HW1 BL sS xI e2 e3 n2 n3 p2 p3 g7 g6
             go_upto_region 17 with fail
             obtain⟨sS,xI,e2,e3,n2,n3,p2,p3,g7⟩:=HQ.out
             obtain⟨y1,y2⟩:=Gp.out
             have p2':U8≥0:=p2
             have p3':¬Xg≥0:=p3
             clear HQ Gp
             go_wp2_with (first|(go_at_call 42;(with_reducible refine(cf _).mono ?_);rintro e W2 ⟨rfl,hb⟩;(replace hN:=hN.go hb);clear hb;(have k0:W2.cell? ⟨w.heap.size,0,none⟩=some (.int .i64 0):=aA hN.h4 0);(have k1:W2.cell? ⟨w.heap.size,1,none⟩=some (.int .i64 0):=aA hN.h4 1);(have k2:W2.cell? ⟨w.heap.size,2,none⟩=some (.string ⟨#[]⟩):=aA hN.h4 2);(have k3:W2.cell? ⟨w.heap.size,3,none⟩=some (.int .i64 0):=aA hN.h4 3);(have k4:W2.cell? ⟨w.heap.size,4,none⟩=some (.int .u64 0):=aA hN.h4 4);(have k5:W2.cell? ⟨w.heap.size+1,0,none⟩=some (.int .i64 0):=aA hN.h6 0);(have k6:W2.cell? ⟨w.heap.size+1,1,none⟩=some (.int .i64 0):=aA hN.h6 1);(have z4:=aC hN.h4);(have z6:=aC hN.h6);(have dL:=hid hN);clear hN)|((with_reducible (apply Calls.mono;first|exact sS _|exact xI _));rintro e w' ⟨rfl,rfl⟩))
             refine bodyPost_ret (dG rfl _ _ w.heap.size (w.heap.size+1) _ _ _ _ _ _ _ _ (0,0) (0,0) rfl rfl rfl (dL.out.fin _ _ _ _ _ _ _).1 (dL.out.fin _ _ _ _ _ _ _).2.1) rfl ?_
             exact⟨by rw[<- HR.out];rfl,(dL.out.fin _ _ _ _ _ _ _).2.2⟩
           ·have HR:=hid ((qB s a f j acc h1 f0 c q (hx2 (.inl p2))).symm.trans hgo)
            clear hx1 hx2 xI
            clear hgo hown h1 h2 h3 h4 f0 q v1 v2 b g1 g2 mR hJ2 hJ3
            generalize bT s[J2]=U8 at *
            obtain⟨w1,w2⟩:=HW1.out
            obtain⟨x1,x2⟩:=BL.out
            have HQ:=hid (aH sS (aH e2 (aH e3 (aH n2 (aH n3 (aH p2 g7))))))
            clear HW1 BL sS e2 e3 n2 n3 p2 g7 g6
            go_upto_region 17 with fail
            obtain⟨sS,e2,e3,n2,n3,p2,g7⟩:=HQ.out
            obtain⟨y1,y2⟩:=Gp.out
            have p2':¬U8≥0:=p2
            clear HQ Gp
            go_wp2_with (first|(go_at_call 42;(with_reducible refine(cf _).mono ?_);rintro e W2 ⟨rfl,hb⟩;(replace hN:=hN.go hb);clear hb;(have k0:W2.cell? ⟨w.heap.size,0,none⟩=some (.int .i64 0):=aA hN.h4 0);(have k1:W2.cell? ⟨w.heap.size,1,none⟩=some (.int .i64 0):=aA hN.h4 1);(have k2:W2.cell? ⟨w.heap.size,2,none⟩=some (.string ⟨#[]⟩):=aA hN.h4 2);(have k3:W2.cell? ⟨w.heap.size,3,none⟩=some (.int .i64 0):=aA hN.h4 3);(have k4:W2.cell? ⟨w.heap.size,4,none⟩=some (.int .u64 0):=aA hN.h4 4);(have k5:W2.cell? ⟨w.heap.size+1,0,none⟩=some (.int .i64 0):=aA hN.h6 0);(have k6:W2.cell? ⟨w.heap.size+1,1,none⟩=some (.int .i64 0):=aA hN.h6 1);(have z4:=aC hN.h4);(have z6:=aC hN.h6);(have dL:=hid hN);clear hN)|(go_at_call 69;(with_reducible refine(sS _).mono ?_);rintro e w' ⟨rfl,rfl⟩))
            refine bodyPost_ret (dG rfl _ _ w.heap.size (w.heap.size+1) _ _ _ _ _ _ _ _ (0,0) (0,0) rfl rfl rfl (dL.out.fin _ _ _ _ _ _ _).1 (dL.out.fin _ _ _ _ _ _ _).2.1) rfl ?_
            exact⟨by rw[<- HR.out];rfl,(dL.out.fin _ _ _ _ _ _ _).2.2⟩
          ·have e3:¬ (J3:Int)<(s.size:Int):=λq=>d3 (aL.1 q)
           have HR:=hid ((qB s a f j acc h1 f0 c q (Ka s j J1 J2 J3 mR hJ2 hJ3 c b d g6 d3)).symm.trans hgo)
           clear hgo hown h1 h2 h3 h4 f0 q v1 v2 b g1 g2 mR hJ2 hJ3
           clear g6 d3
           obtain⟨w1,w2⟩:=HW1.out
           obtain⟨x1,x2⟩:=BL.out
           have HQ:=hid (aH e3 g7)
           clear HW1 BL e3 g7
           go_upto_region 17 with fail
           obtain⟨e3,g7⟩:=HQ.out
           obtain⟨y1,y2⟩:=Gp.out
           clear HQ Gp
           go_wp2_with (go_at_call 42;(with_reducible refine(cf _).mono ?_);rintro e W2 ⟨rfl,hb⟩;(replace hN:=hN.go hb);clear hb;(have k0:W2.cell? ⟨w.heap.size,0,none⟩=some (.int .i64 0):=aA hN.h4 0);(have k1:W2.cell? ⟨w.heap.size,1,none⟩=some (.int .i64 0):=aA hN.h4 1);(have k2:W2.cell? ⟨w.heap.size,2,none⟩=some (.string ⟨#[]⟩):=aA hN.h4 2);(have k3:W2.cell? ⟨w.heap.size,3,none⟩=some (.int .i64 0):=aA hN.h4 3);(have k4:W2.cell? ⟨w.heap.size,4,none⟩=some (.int .u64 0):=aA hN.h4 4);(have k5:W2.cell? ⟨w.heap.size+1,0,none⟩=some (.int .i64 0):=aA hN.h6 0);(have k6:W2.cell? ⟨w.heap.size+1,1,none⟩=some (.int .i64 0):=aA hN.h6 1);(have z4:=aC hN.h4);(have z6:=aC hN.h6);(have dL:=hid hN);clear hN)
           refine bodyPost_ret (dG rfl _ _ w.heap.size (w.heap.size+1) _ _ _ _ _ _ _ _ (0,0) (0,0) rfl rfl rfl (dL.out.fin _ _ _ _ _ _ _).1 (dL.out.fin _ _ _ _ _ _ _).2.1) rfl ?_
           exact⟨by rw[<- HR.out];rfl,(dL.out.fin _ _ _ _ _ _ _).2.2⟩
         ·have g7:((s[J1].toNat:Int)==120)=false:=fA g6
          have HR:=hid ((qB s a f j acc h1 f0 c q (Kc s j J1 J2 J3 mR hJ2 hJ3 c b d (λq=>g1 (.inl q)) (λq=>g1 (.inr q)) g2 g6)).symm.trans hgo)
          clear hgo hown h1 h2 h3 h4 f0 q v1 v2 b g1 g2 mR hJ2 hJ3
          clear g6
          obtain⟨w1,w2⟩:=HW1.out
          obtain⟨x1,x2⟩:=BL.out
          clear HW1 BL Gp
          go_wp2_with (go_at_call 42;(with_reducible refine(cf _).mono ?_);rintro e W2 ⟨rfl,hb⟩;(replace hN:=hN.go hb);clear hb;(have k0:W2.cell? ⟨w.heap.size,0,none⟩=some (.int .i64 0):=aA hN.h4 0);(have k1:W2.cell? ⟨w.heap.size,1,none⟩=some (.int .i64 0):=aA hN.h4 1);(have k2:W2.cell? ⟨w.heap.size,2,none⟩=some (.string ⟨#[]⟩):=aA hN.h4 2);(have k3:W2.cell? ⟨w.heap.size,3,none⟩=some (.int .i64 0):=aA hN.h4 3);(have k4:W2.cell? ⟨w.heap.size,4,none⟩=some (.int .u64 0):=aA hN.h4 4);(have k5:W2.cell? ⟨w.heap.size+1,0,none⟩=some (.int .i64 0):=aA hN.h6 0);(have k6:W2.cell? ⟨w.heap.size+1,1,none⟩=some (.int .i64 0):=aA hN.h6 1);(have z4:=aC hN.h4);(have z6:=aC hN.h6);(have dL:=hid hN);clear hN)
          refine bodyPost_ret (dG rfl _ _ w.heap.size (w.heap.size+1) _ _ _ _ _ _ _ _ (0,0) (0,0) rfl rfl rfl (dL.out.fin _ _ _ _ _ _ _).1 (dL.out.fin _ _ _ _ _ _ _).2.1) rfl ?_
          exact⟨by rw[<- HR.out];rfl,(dL.out.fin _ _ _ _ _ _ _).2.2⟩
      ·have d2:J1=s.size:=by omega
       have HR:=hid ((qB s a f j acc h1 f0 c q (OE s j J1 mR c b d)).symm.trans hgo)
       clear hgo hown h1 h2 h3 h4 f0 q v1 v2 b mR hJ2 hJ3
       obtain⟨w1,w2⟩:=HW1.out
       clear HW1 BL Gp
       have d3:(J1:Int)=(s.size:Int):=by rw[d2]
       clear d d2
       go_wp2_with (go_at_call 42;(with_reducible refine(cf _).mono ?_);rintro e W2 ⟨rfl,hb⟩;(replace hN:=hN.go hb);clear hb;(have k0:W2.cell? ⟨w.heap.size,0,none⟩=some (.int .i64 0):=aA hN.h4 0);(have k1:W2.cell? ⟨w.heap.size,1,none⟩=some (.int .i64 0):=aA hN.h4 1);(have k2:W2.cell? ⟨w.heap.size,2,none⟩=some (.string ⟨#[]⟩):=aA hN.h4 2);(have k3:W2.cell? ⟨w.heap.size,3,none⟩=some (.int .i64 0):=aA hN.h4 3);(have k4:W2.cell? ⟨w.heap.size,4,none⟩=some (.int .u64 0):=aA hN.h4 4);(have k5:W2.cell? ⟨w.heap.size+1,0,none⟩=some (.int .i64 0):=aA hN.h6 0);(have k6:W2.cell? ⟨w.heap.size+1,1,none⟩=some (.int .i64 0):=aA hN.h6 1);(have z4:=aC hN.h4);(have z6:=aC hN.h6);(have dL:=hid hN);clear hN)
       refine bodyPost_ret (dG rfl _ _ w.heap.size (w.heap.size+1) _ _ _ _ _ _ _ _ (0,0) (0,0) rfl rfl rfl (dL.out.fin _ _ _ _ _ _ _).1 (dL.out.fin _ _ _ _ _ _ _).2.1) rfl ?_
       exact⟨by rw[<- HR.out];rfl,(dL.out.fin _ _ _ _ _ _ _).2.2⟩
     ·have b1:((s[j].toNat:Int)!=92)=true:=by have:=fA b;simp only[bne];rw[show ((s[j].toNat:Int)==92)=false from this];rfl
      obtain⟨f',rfl⟩:∃f',f=f'+1:=vF f0
      have nk:=vL h1 h3 h4 mR (by decide) (one_le mR c)
      have HM:=hid nk.2.2.2
      have eJ:=mR
      have HX:=hid (show a<J1/\J1<=s.size/\s.size<=J1+f'/\(acc++[s[j]]).length<=J1/\Di s a f' J1 (acc++[s[j]])=RV from⟨nk.1,(one_le mR c),nk.2.1,by rw[bY,BR];exact nk.2.2.1,by rw[<- eJ];exact(Ai s a f' j 1 s[j] acc h1 c q (by decide) (RQ s j c v1 v2 b)).symm.trans hgo⟩)
      have HL:=hid (Ab h4 h2 HS.out)
      have HO:=hid hown
      have HN:=hid hN
      clear hgo hown hN h1 h2 h3 h4 f0 q v1 v2 b eJ nk mR
      obtain⟨w1,w2⟩:=HW1.out
      clear HW1
      go_wp2_with ((at_builtin;refine wpList_append_own _ rfl _ _ 100 rfl w.heap.size 5 i0 (.int .u8 0) 1 1 underlying100 hi hz0 hz1 hz2 rfl (by decide) _ _ _ rfl (HO.out.alloc _) ⟨_,0,none⟩ 1 1 [.int .u8 s[j].toNat] rfl rfl ?ed1 ?ed2 ?ed3 ?ed4 ?ed5 ?_))
      case ed2=>first|(intro u hu;simp at hu;subst hu;rfl)|rfl|(simp;done)
      case ed3=>have:=HL.out;first|omega|(unfold maxLen;omega)
      case ed4=>have:=HL.out;omega
      case ed5=>have:=HN.out.bf.size;first|omega|(simp;omega)
      ·intro v' w1 hown' hgrow _
       have R1:=hid (jU acc s[j] s[j].toNat rfl)
       have RN:=hid ((HN.out.go ((jl _ _).alloc (aY _) (.cells #[.int .u8 s[j].toNat] 5))).grown (HO.out.alloc _) hgrow (λk e=>(HO.out.lt k e).1))
       clear hgrow HO HN
       go_wp2
       go_roundw
       case rel=>exact⟨J1,f',acc++[s[j]],by first|rfl|go_num,HX.out.1,HX.out.2.1,HX.out.2.2.1,HX.out.2.2.2.1,HX.out.2.2.2.2,by have:=R1.out;rw[this,bY];exact hown',RN.out⟩
       case measure=>exact rz HM.out HX.out.2.1
  ·have c1:¬ (j:Int)<(s.size:Int):=λq=>c (aL.1 q)
   have HR:=hid ((PK s a f j acc h1 c).symm.trans hgo)
   clear hgo hown h1 h2 h3 h4 c
   go_wp2_with (go_at_call 42;(with_reducible refine(cf _).mono ?_);rintro e W2 ⟨rfl,hb⟩;(replace hN:=hN.go hb);clear hb;(have k0:W2.cell? ⟨w.heap.size,0,none⟩=some (.int .i64 0):=aA hN.h4 0);(have k1:W2.cell? ⟨w.heap.size,1,none⟩=some (.int .i64 0):=aA hN.h4 1);(have k2:W2.cell? ⟨w.heap.size,2,none⟩=some (.string ⟨#[]⟩):=aA hN.h4 2);(have k3:W2.cell? ⟨w.heap.size,3,none⟩=some (.int .i64 0):=aA hN.h4 3);(have k4:W2.cell? ⟨w.heap.size,4,none⟩=some (.int .u64 0):=aA hN.h4 4);(have k5:W2.cell? ⟨w.heap.size+1,0,none⟩=some (.int .i64 0):=aA hN.h6 0);(have k6:W2.cell? ⟨w.heap.size+1,1,none⟩=some (.int .i64 0):=aA hN.h6 1);(have z4:=aC hN.h4);(have z6:=aC hN.h6);(have dL:=hid hN);clear hN)
   refine bodyPost_ret (dG rfl _ _ w.heap.size (w.heap.size+1) _ _ _ _ _ _ _ _ (0,0) (0,0) rfl rfl rfl (dL.out.fin _ _ _ _ _ _ _).1 (dL.out.fin _ _ _ _ _ _ _).2.1) rfl ?_
   exact⟨by rw[<- HR.out];rfl,(dL.out.fin _ _ _ _ _ _ _).2.2⟩
theorem OY(s:ByteArray)(hs:s.size<=1000000)(a:Nat)(ha:a<s.size)(hq:s[a].toNat=34)(w:World) :
  Calls prog 40 #[.string s,.int .i64 a] w λe w'=>e=.returned (yg (dh (s.data.toList.drop a)) a)/\Below w.heap.size w w':=by
 refine(EM s hs a (s.size-a) ha (by omega) _ rfl w).mono ?_
 rintro e w' ⟨rfl,hb⟩
 refine⟨?_,hb⟩
 have e1:dh (s.data.toList.drop a)=qd (bq (s.size-a) (s.data.toList.drop (a+1)) 1 []):=by
  unfold dh
  rw[if_pos (by rw[drop_cons s a ha,gQ hq];rfl),dI,size_list,qV]
 have e2:yg (qd (bq (s.size-a) (s.data.toList.drop (a+1)) 1 [])) a=yg (bq (s.size-a) (s.data.toList.drop (a+1)) 1 []) a:=by
  have hg:=wH (s.size-a) (s.data.toList.drop (a+1)) 1 []
  rcases qc (s.size-a) (s.data.toList.drop (a+1)) 1 [] with⟨n,g⟩|⟨t,n,g⟩
  ·rcases mo (bq (s.size-a) (s.data.toList.drop (a+1)) 1 []) with k|⟨_,k⟩
   ·rw[k]
   ·rw[g] at hg
    have hn:n≠0:=by have:(gG n 61).size=n:=rfl;omega
    rw[k,g,qm 1 61 a (by decide) (by decide),qm n 61 a hn (by decide)]
  ·rw[g,LB rfl]
 unfold Di
 rw[e1,e2,show a+1-a=1 by omega]
theorem yU(s:ByteArray)(hs:s.size<=1000000)(a:Nat)(ha:a<=s.size)(w:World) :
  Calls prog 23 #[.string s,.int .i64 a] w λe w'=>e=.returned (nextR (s.data.toList.drop a) a)/\Below w.heap.size w w':=
 OZ s hs a ha (λh hd w=>IL s hs a h hd w) (λh hq w=>OY s hs a h hq w) w
theorem JU(l:List UInt8)(k:Nat)(hk:k<=l.length)(h:pV (l.drop k))(y:Yd)(rest:List Yd)(hT:T (l.drop k) k=y::rest) :
  ∃to':Int,nextR (l.drop k) k=.tuple #[tv y.t y.a,.int .i64 to',.agg #[.int .i64 y.c,.int .i64 y.f]] /\
   ((y.c≠0/\rest=[])\/(y.c=0/\y.t.kind=7/\rest=[])\/(y.c=0/\y.t.kind≠7/\∃m:Nat,to'=(m:Int)/\m<=l.length/\rest=T (l.drop m) m)):=by
 unfold nextR
 by_cases e:l.drop k=[]
 ·rw[if_pos e]
  rw[e,Qu] at hT
  simp only[dR.injEq] at hT
  obtain⟨rfl,rfl⟩:=hT
  exact⟨_,rfl,.inr (.inl ⟨rfl,rfl,rfl⟩)⟩
 ·rw[if_neg e]
  have hp:=wK _ h
  have hst:=uG (r:=l.drop k) (a:=k) e
  rw[hp,hT] at hst
  have hle:=jY (l.drop k)
  rw[hp,dI] at hle
  unfold yg
  by_cases c1:(iK (l.drop k)).size=0
  ·rw[if_pos c1]
   rw[if_pos c1] at hst
   simp only[dR.injEq] at hst
   obtain⟨rfl,rfl⟩:=hst
   exact⟨_,rfl,.inl ⟨(show (60:Int)≠0 by decide),rfl⟩⟩
  ·rw[if_neg c1]
   rw[if_neg c1] at hst
   by_cases c2:(iK (l.drop k)).code=0
   ·rw[if_neg (λh=>h c2)]
    rw[if_neg (λh=>h c2)] at hst
    have k0:(iK (l.drop k)).t.kind≠0:=Bz _ c1 c2
    rw[if_pos k0] at hst
    simp only[dR.injEq] at hst
    obtain⟨rfl,rfl⟩:=hst
    refine⟨_,rfl,.inr (.inr ⟨rfl,CF _,k+(iK (l.drop k)).size,rfl,by omega,?_⟩)⟩
    rw[qV]
   ·rw[if_pos c2]
    rw[if_pos c2] at hst
    simp only[dR.injEq] at hst
    obtain⟨rfl,rfl⟩:=hst
    exact⟨_,rfl,.inl ⟨c2,rfl⟩⟩
theorem XA(r:List UInt8)(a:Nat):T r a≠[]:=by
 obtain⟨ts,z,h,_⟩:=Tx _ r a (aY _)
 rw[h]
 simp
end Go.Proofs.YtgchnkgolclmgaaGreatDoor.W

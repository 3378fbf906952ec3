import Derived.Test.YtknkedihmmbanaaDoorJG
import Derived.Test.YtknkedihmmbanaaDoorRB
import Derived.Test.YtknkedihmmbanaaDoorRS4J
import Derived.Lib.AppendZeros
open List renaming length_append → z5z, length_drop → z6z, cons → z10z, drop_eq_nil_of_le → z11z, drop_drop → z15z, length_singleton → z16z, length_take → z19z
open Array renaming getElem?_eq_some_iff → z20z
open Nat renaming le_refl → z2z, le_succ_of_le → z3z, le_trans → z9z
open Go.World renaming alloc → z14z
open Go.RowKit.Below renaming refl → z13z
open Go.IntKind renaming i64 → z7z, wrap_i64 → z8z
open Int renaming ofNat_lt → z1z, natCast_nonneg → z4z, ofNat_le → z12z
open Go.AllReadyH renaming cons → z17z, nil → z18z
open And renaming intro → z0z
open Go.Proofs.Tryd
open List renaming getElem_toArray → zx1, getElem_cons_zero → zx2, getElem_cons_succ → zx3, setIfInBounds_toArray → zx4, set_cons_zero → zx5, set_cons_succ → zx6
set_option maxRecDepth 1000000
set_option maxHeartbeats 8000000
namespace Go.Proofs.YtknkedihmmbanaaDoor.W
open Go.ChangeShapes Go.WideShapes Go.RowKit Go.Shelf
set_option linter.unusedVariables false
set_option linter.unusedSimpArgs false
theorem run_ways(p:UInt8->Bool)(s:ByteArray)(k:Nat){tE:Nat}(h3:runN p (s.data.toList.drop k)+k=tE)(h2:k<=s.size):(∃h:k<s.size,p s[k]=true)\/(k=tE/\(¬k<s.size\/∃h:k<s.size,p s[k]=false)):=by
 by_cases c:k<s.size
 ·have hd:=drop_cons s k c
  cases b:p s[k]
  ·right
   rw[hd,runN_cons_f b] at h3
   exact⟨by omega,.inr ⟨c,b⟩⟩
  ·exact .inl ⟨c,b⟩
 ·right
  rw[z11z (by rw[size_list];omega)] at h3
  exact⟨by have:runN p []=0:=rfl;omega,.inl c⟩
theorem hexP_ways(c:UInt8):(hexPB c=true->0<=hexV c\/(¬0<=hexV c/\((c.toNat:Int)==46)=true))/\(hexPB c=false->¬0<=hexV c/\((c.toNat:Int)==46)=false):=by
 have e1:hexPB c=(decide (c.toNat=46)||decide (0<=hexV c)):=by
  unfold hexPB
  rw[<- u8_eq c 46 (by decide)];rfl
 rw[e1]
 constructor
 ·intro h
  by_cases g:0<=hexV c
  ·exact .inl g
  ·right;simp[g] at h;exact⟨g,by rw[h];rfl⟩
 ·intro h
  simp at h
  exact⟨by omega,by rw[beq_eq_false_iff_ne];intro q;exact h.1 (by omega)⟩
theorem wrap_in{s:ByteArray}(hs:s.size<=1000000){j m:Nat}(hj:j<=s.size+1)(h:j+1=m):z7z.wrap ((j:Int)+1)=(m:Int)/\wrap64 ((j:Int)+1)=(m:Int):=by
 constructor
 ·rw[z8z];omega
 ·unfold wrap64;omega
theorem meas_up{n k:Nat}(h:k<n):n-(intOf (.int .i64 ((k+1:Nat):Int))).toNat<n-(intOf (.int .i64 (k:Int))).toNat:=by
 simp[intOf];omega
theorem run_next(p:UInt8->Bool)(s:ByteArray){k tE:Nat}(c:k<s.size)(b:p s[k]=true)(h3:runN p (s.data.toList.drop k)+k=tE):runN p (s.data.toList.drop (k+1))+(k+1)=tE:=by
 rw[drop_cons s k c,runN_cons_t b] at h3
 omega
theorem rHexN_core(s S:ByteArray)(hs:s.size<=1000000)(a A1 A2 k1 tE:Nat)(hA1:a+1=A1)(hA2:a+2=A2)(ha0:a<s.size)(ha:A1<s.size)(x0:((s[a].toNat:Int)==48)=true)(x1:((s[A1].toNat:Int)==120)=true)(hk1:runN hexPB (s.data.toList.drop A2)+A2=k1)(hS:s.extract a tE=S)(x c:Int)(cp:∀w,Calls prog 47 #[.string S] w λe w'=>e=.returned (.tuple #[.int .u64 x,.int .i64 c])/\Below w.heap.size w w')
  (K2:Nat) (hK2:k1+1=K2) (hp:(tE=k1/\(¬k1<s.size\/∃h:k1<s.size,((s[k1].toNat:Int)==112)=false))\/(∃h:k1<s.size,((s[k1].toNat:Int)==112)=true/\∃k3,k1<=k3/\(runN digB (s.data.toList.drop k3)+k3=tE/\k3<=s.size)/\((k3=K2+1/\∃h:K2<s.size,((s[K2].toNat:Int)==43)=true\/(((s[K2].toNat:Int)==43)=false/\((s[K2].toNat:Int)==45)=true))\/(k3=K2/\(¬K2<s.size\/∃h:K2<s.size,((s[K2].toNat:Int)==43)=false/\((s[K2].toNat:Int)==45)=false))))) (R:Value)
  (ways:(c≠0/\R=.tuple #[tv noTk 0,.int .i64 (a:Nat),.agg #[.int .i64 62,.int .i64 (a:Nat)]])\/(c=0/\R=.tuple #[tv ⟨5,⟨#[]⟩,0,x⟩ (a:Nat),.int .i64 (tE:Int),.agg #[.int .i64 0,.int .i64 0]])) (w:World) :
  Calls prog 27 #[.string s,.int .i64 a] w λe w'=>e=.returned R/\Below w.heap.size w w':=by
 have cd:=rDigit_c
 have ch:=rHex_c
 have cf:=rFault_c 62 a
 simp only[tv,noTk] at cf
 have HS:=hid hs
 have HK1:=hid hk1
 have HK2:=hid hK2
 have HE:=hid hS
 have HW:=hid ways
 have HP:=hid hp
 have hN:=Nx0.start w
 clear hk1 hS ways hp hK2
 have a0:(0:Int)<=(a:Int):=by omega
 have a1:(a:Int)<(s.size:Int):=by omega
 have a2:z7z.wrap ((a:Int)+1)=(A1:Int):=by rw[z8z];omega
 have a3:wrap64 ((a:Int)+1)=(A1:Int):=by unfold wrap64;omega
 have a4:(0:Int)<=(A1:Int):=by omega
 have a5:(A1:Int)<(s.size:Int):=by omega
 have a6:z7z.wrap ((a:Int)+2)=(A2:Int):=by rw[z8z];omega
 have a7:wrap64 ((a:Int)+2)=(A2:Int):=by unfold wrap64;omega
 have HA2:=hid (show a<=A2/\A2<=s.size by omega)
 clear hA1 hA2
 clear hs
 go_enter func27,ntmps27
 go_upto_region 1 with fail
 generalize z14z (z14z w _) _=W at *
 have HN:=hid hN
 clear hN
 go_wp2_with fail
 clear x0 x1 a2 a3 a6 a7
 go_loop [7] (λi=>∃k:Nat,i=.int .i64 k/\A2<=k/\k<=s.size/\runN hexPB (s.data.toList.drop k)+k=k1) (λi=>s.size-(intOf i).toNat)
 case atStart=>exact⟨A2,rfl,z2z _,HA2.out.2,HK1.out⟩
 case round=>
  obtain⟨k,rfl,h1,h2,h3⟩:=hrel
  have e1:z7z.wrap ((k:Int)+1)=((k+1:Nat):Int):=by have:=HS.out;rw[z8z];omega
  have e2:wrap64 ((k:Int)+1)=((k+1:Nat):Int):=by have:=HS.out;unfold wrap64;omega
  have c0:(0:Int)<=(k:Int):=z4z k
  rcases run_ways hexPB s k h3 h2 with⟨c,b⟩|⟨ek,hx2⟩
  ·have hd:=drop_cons s k c
   have chk:=ch s[k]
   have hw:=(hexP_ways s[k]).1 b
   have c1:(k:Int)<(s.size:Int):=by omega
   have fin:=hid (show runN hexPB (s.data.toList.drop (k+1))+(k+1)=k1 by rw[hd,runN_cons_t b] at h3;omega)
   have HH:=hid (z0z h1 c)
   clear h1 h2 h3 hd b
   generalize hexV s[k]=v at *
   rcases hw with hw|⟨hw,hw2⟩
   all_goals (
    go_wp2_with (go_at_call 49;(with_reducible refine(chk _).mono ?_);rintro e w' ⟨rfl,rfl⟩)
    go_round
    case rel=>exact⟨k+1,by go_num,by have:=HH.out.1;omega,HH.out.2,fin.out⟩
    case measure=>have:=HH.out.2;simp[intOf];omega)
  ·subst ek
   have H1:=hid h1
   rcases hx2 with hx2|⟨hk,hb⟩
   ·have ex:¬ (k:Int)<(s.size:Int):=by omega
    rcases HP.out with⟨et,_⟩|⟨h,_⟩
    ·subst et
     have hS:=HE.out
     have l1:(a:Int)<=(tE:Int):=by have:=HA2.out;omega
     have l2:(tE:Int)<=(s.size:Int):=by omega
     clear hx2 h1 h2 h3 e1 e2 HP
     have hN:=HN.out
     rcases HW.out with⟨b1,hR⟩|⟨b1,hR⟩
     ·have HR:=hid hR
      clear hR HW
      go_wp2_with (first|((with_reducible (apply Calls.mono;first|exact cdk _|exact chk _));rintro e w' ⟨rfl,rfl⟩)|(go_at_call 47;(with_reducible refine(cp _).mono ?_);rintro e W2 ⟨rfl,hb⟩;(replace hN:=hN.go hb);clear hb)|(go_at_call 30;(with_reducible refine(cf _).mono ?_);rintro e W2 ⟨rfl,hb⟩;(replace hN:=hN.go hb);clear hb;(have k0:W2.cell? ⟨w.heap.size,0,none⟩=some (.int .i64 0):=row_cellsX hN.h4 0);(have k1:W2.cell? ⟨w.heap.size,1,none⟩=some (.int .i64 0):=row_cellsX hN.h4 1);(have k2:W2.cell? ⟨w.heap.size,2,none⟩=some (.string ⟨#[]⟩):=row_cellsX hN.h4 2);(have k3:W2.cell? ⟨w.heap.size,3,none⟩=some (.int .i64 0):=row_cellsX hN.h4 3);(have k4:W2.cell? ⟨w.heap.size,4,none⟩=some (.int .u64 0):=row_cellsX hN.h4 4);(have k5:W2.cell? ⟨w.heap.size+1,0,none⟩=some (.int .i64 0):=row_cellsX hN.h6 0);(have k6:W2.cell? ⟨w.heap.size+1,1,none⟩=some (.int .i64 0):=row_cellsX hN.h6 1);(have z4:=row_thawX hN.h4);(have z6:=row_thawX hN.h6);(have HN2:=hid hN);clear hN))
      refine bodyPost_ret (nx_ret rfl _ _ w.heap.size (w.heap.size+1) _ _ _ _ _ _ _ _ (0,0) (0,0) rfl rfl rfl (HN2.out.fin _ _ _ _ _ _ _).1 (HN2.out.fin _ _ _ _ _ _ _).2.1) rfl ?_
      exact⟨by rw[HR.out];rfl,(HN2.out.fin _ _ _ _ _ _ _).2.2⟩
     ·have HR:=hid hR
      subst b1
      clear hR HW
      go_wp2_with (first|((with_reducible (apply Calls.mono;first|exact cdk _|exact chk _));rintro e w' ⟨rfl,rfl⟩)|(go_at_call 47;(with_reducible refine(cp _).mono ?_);rintro e W2 ⟨rfl,hb⟩;(replace hN:=hN.go hb);clear hb;(have k0:W2.cell? ⟨w.heap.size,0,none⟩=some (.int .i64 0):=row_cellsX hN.h4 0);(have k1:W2.cell? ⟨w.heap.size,1,none⟩=some (.int .i64 0):=row_cellsX hN.h4 1);(have k2:W2.cell? ⟨w.heap.size,2,none⟩=some (.string ⟨#[]⟩):=row_cellsX hN.h4 2);(have k3:W2.cell? ⟨w.heap.size,3,none⟩=some (.int .i64 0):=row_cellsX hN.h4 3);(have k4:W2.cell? ⟨w.heap.size,4,none⟩=some (.int .u64 0):=row_cellsX hN.h4 4);(have k5:W2.cell? ⟨w.heap.size+1,0,none⟩=some (.int .i64 0):=row_cellsX hN.h6 0);(have k6:W2.cell? ⟨w.heap.size+1,1,none⟩=some (.int .i64 0):=row_cellsX hN.h6 1);(have z4:=row_thawX hN.h4);(have z6:=row_thawX hN.h6);(have HN2:=hid hN);clear hN))
      refine bodyPost_ret (nx_ret rfl _ _ w.heap.size (w.heap.size+1) _ _ _ _ _ _ _ _ (0,0) (0,0) rfl rfl rfl (HN2.out.fin _ _ _ _ _ _ _).1 (HN2.out.fin _ _ _ _ _ _ _).2.1) rfl ?_
      exact⟨by rw[HR.out];rfl,(HN2.out.fin _ _ _ _ _ _ _).2.2⟩
    ·exact absurd h hx2
   ·have chk:=ch s[k]
    obtain⟨hw,hw2⟩:=(hexP_ways s[k]).2 hb
    have c1:(k:Int)<(s.size:Int):=by omega
    generalize hexV s[k]=v at *
    rcases HP.out with⟨et,hq⟩|⟨_,hq,k3,hle3,h3',hs3⟩
    ·subst et
     have hS:=HE.out
     have l1:(a:Int)<=(tE:Int):=by have:=HA2.out;omega
     have l2:(tE:Int)<=(s.size:Int):=by omega
     have np:((s[tE].toNat:Int)==112)=false:=by
      rcases hq with hq|⟨_,hq⟩
      ·exact absurd hk hq
      ·exact hq
     clear hq h1 h2 h3 e1 e2 HP hb
     have hN:=HN.out
     rcases HW.out with⟨b1,hR⟩|⟨b1,hR⟩
     ·have HR:=hid hR
      clear hR HW
      go_wp2_with (first|((with_reducible (apply Calls.mono;first|exact cdk _|exact chk _));rintro e w' ⟨rfl,rfl⟩)|(go_at_call 47;(with_reducible refine(cp _).mono ?_);rintro e W2 ⟨rfl,hb⟩;(replace hN:=hN.go hb);clear hb)|(go_at_call 30;(with_reducible refine(cf _).mono ?_);rintro e W2 ⟨rfl,hb⟩;(replace hN:=hN.go hb);clear hb;(have k0:W2.cell? ⟨w.heap.size,0,none⟩=some (.int .i64 0):=row_cellsX hN.h4 0);(have k1:W2.cell? ⟨w.heap.size,1,none⟩=some (.int .i64 0):=row_cellsX hN.h4 1);(have k2:W2.cell? ⟨w.heap.size,2,none⟩=some (.string ⟨#[]⟩):=row_cellsX hN.h4 2);(have k3:W2.cell? ⟨w.heap.size,3,none⟩=some (.int .i64 0):=row_cellsX hN.h4 3);(have k4:W2.cell? ⟨w.heap.size,4,none⟩=some (.int .u64 0):=row_cellsX hN.h4 4);(have k5:W2.cell? ⟨w.heap.size+1,0,none⟩=some (.int .i64 0):=row_cellsX hN.h6 0);(have k6:W2.cell? ⟨w.heap.size+1,1,none⟩=some (.int .i64 0):=row_cellsX hN.h6 1);(have z4:=row_thawX hN.h4);(have z6:=row_thawX hN.h6);(have HN2:=hid hN);clear hN))
      refine bodyPost_ret (nx_ret rfl _ _ w.heap.size (w.heap.size+1) _ _ _ _ _ _ _ _ (0,0) (0,0) rfl rfl rfl (HN2.out.fin _ _ _ _ _ _ _).1 (HN2.out.fin _ _ _ _ _ _ _).2.1) rfl ?_
      exact⟨by rw[HR.out];rfl,(HN2.out.fin _ _ _ _ _ _ _).2.2⟩
     ·have HR:=hid hR
      subst b1
      clear hR HW
      go_wp2_with (first|((with_reducible (apply Calls.mono;first|exact cdk _|exact chk _));rintro e w' ⟨rfl,rfl⟩)|(go_at_call 47;(with_reducible refine(cp _).mono ?_);rintro e W2 ⟨rfl,hb⟩;(replace hN:=hN.go hb);clear hb;(have k0:W2.cell? ⟨w.heap.size,0,none⟩=some (.int .i64 0):=row_cellsX hN.h4 0);(have k1:W2.cell? ⟨w.heap.size,1,none⟩=some (.int .i64 0):=row_cellsX hN.h4 1);(have k2:W2.cell? ⟨w.heap.size,2,none⟩=some (.string ⟨#[]⟩):=row_cellsX hN.h4 2);(have k3:W2.cell? ⟨w.heap.size,3,none⟩=some (.int .i64 0):=row_cellsX hN.h4 3);(have k4:W2.cell? ⟨w.heap.size,4,none⟩=some (.int .u64 0):=row_cellsX hN.h4 4);(have k5:W2.cell? ⟨w.heap.size+1,0,none⟩=some (.int .i64 0):=row_cellsX hN.h6 0);(have k6:W2.cell? ⟨w.heap.size+1,1,none⟩=some (.int .i64 0):=row_cellsX hN.h6 1);(have z4:=row_thawX hN.h4);(have z6:=row_thawX hN.h6);(have HN2:=hid hN);clear hN))
      refine bodyPost_ret (nx_ret rfl _ _ w.heap.size (w.heap.size+1) _ _ _ _ _ _ _ _ (0,0) (0,0) rfl rfl rfl (HN2.out.fin _ _ _ _ _ _ _).1 (HN2.out.fin _ _ _ _ _ _ _).2.1) rfl ?_
      exact⟨by rw[HR.out];rfl,(HN2.out.fin _ _ _ _ _ _ _).2.2⟩
    ·have H3:=hid h3'
     have HS3:=hid hs3
     clear hs3
     have HK3:=hid (z9z HA2.out.1 (z9z h1 hle3))
     have p0:(0:Int)<=(K2:Int):=z4z K2
     have hK2b:k<=s.size+1:=z3z h2
     have hK2c:K2<=s.size+1:=by rw[<- HK2.out];exact Nat.succ_le_succ h2
     obtain⟨p2,p3⟩:=wrap_in HS.out hK2b HK2.out
     obtain⟨p5,p4⟩:=wrap_in HS.out hK2c rfl
     clear hK2b hK2c e1 e2
     clear h1 h2 h3 HP hb h3' hle3
     rcases HS3.out with⟨hk3,hl,hsg⟩|⟨hk3,hsg⟩
     ·have HKK:=hid hk3
      clear hk3
      have p1:(K2:Int)<(s.size:Int):=z1z.2 hl
      rcases hsg with hsg|⟨hsg,hsg2⟩
      all_goals (
       go_wp2_with ((with_reducible (apply Calls.mono;first|exact cdk _|exact chk _));rintro e w' ⟨rfl,rfl⟩)
       go_loop [7] (λi=>∃j:Nat,i=.int .i64 j/\k3<=j/\j<=s.size/\runN digB (s.data.toList.drop j)+j=tE) (λi=>s.size-(intOf i).toNat)
       case atStart=>exact⟨k3,by first|(rw[HKK.out];done)|(rw[HKK.out];first|rfl|go_num),z2z _,H3.out.2,H3.out.1⟩
       case round=>
        obtain⟨j,rfl,g1,g2,g3⟩:=hrel
        obtain⟨w1,w2⟩:=wrap_in HS.out (z3z g2) (rfl:j+1=j+1)
        rcases run_ways digB s j g3 g2 with⟨c,b⟩|⟨ej,hx2⟩
        ·have cdk:=cd s[j]
         rw[b] at cdk
         have c1:(j:Int)<(s.size:Int):=z1z.2 c
         have c0:(0:Int)<=(j:Int):=z4z j
         have fin:=hid (run_next digB s c b g3)
         have HH:=hid (z0z g1 c)
         clear g1 g2 g3 b
         go_wp2_with (go_at_call 26;(with_reducible refine(cdk _).mono ?_);rintro e w' ⟨rfl,rfl⟩)
         go_round
         case rel=>exact⟨j+1,by first|rfl|go_num,z3z HH.out.1,HH.out.2,fin.out⟩
         case measure=>exact meas_up HH.out.2
        ·subst ej
         have hS:=HE.out
         have l1:(a:Int)<=(j:Int):=z12z.2 (z9z HK3.out g1)
         have l2:(j:Int)<=(s.size:Int):=z12z.2 g2
         rcases hx2 with hx2|⟨hj,hb⟩
         ·have ex:¬ (j:Int)<(s.size:Int):=λq=>hx2 (z1z.1 q)
          clear hx2 g1 g2 g3 w1 w2
          have hN:=HN.out
          rcases HW.out with⟨b1,hR⟩|⟨b1,hR⟩
          ·have HR:=hid hR
           clear hR HW
           go_wp2_with (first|((with_reducible (apply Calls.mono;first|exact cdk _|exact chk _));rintro e w' ⟨rfl,rfl⟩)|(go_at_call 47;(with_reducible refine(cp _).mono ?_);rintro e W2 ⟨rfl,hb⟩;(replace hN:=hN.go hb);clear hb)|(go_at_call 30;(with_reducible refine(cf _).mono ?_);rintro e W2 ⟨rfl,hb⟩;(replace hN:=hN.go hb);clear hb;(have k0:W2.cell? ⟨w.heap.size,0,none⟩=some (.int .i64 0):=row_cellsX hN.h4 0);(have k1:W2.cell? ⟨w.heap.size,1,none⟩=some (.int .i64 0):=row_cellsX hN.h4 1);(have k2:W2.cell? ⟨w.heap.size,2,none⟩=some (.string ⟨#[]⟩):=row_cellsX hN.h4 2);(have k3:W2.cell? ⟨w.heap.size,3,none⟩=some (.int .i64 0):=row_cellsX hN.h4 3);(have k4:W2.cell? ⟨w.heap.size,4,none⟩=some (.int .u64 0):=row_cellsX hN.h4 4);(have k5:W2.cell? ⟨w.heap.size+1,0,none⟩=some (.int .i64 0):=row_cellsX hN.h6 0);(have k6:W2.cell? ⟨w.heap.size+1,1,none⟩=some (.int .i64 0):=row_cellsX hN.h6 1);(have z4:=row_thawX hN.h4);(have z6:=row_thawX hN.h6);(have HN2:=hid hN);clear hN))
           refine bodyPost_ret (nx_ret rfl _ _ w.heap.size (w.heap.size+1) _ _ _ _ _ _ _ _ (0,0) (0,0) rfl rfl rfl (HN2.out.fin _ _ _ _ _ _ _).1 (HN2.out.fin _ _ _ _ _ _ _).2.1) rfl ?_
           exact⟨by rw[HR.out];rfl,(HN2.out.fin _ _ _ _ _ _ _).2.2⟩
          ·have HR:=hid hR
           subst b1
           clear hR HW
           go_wp2_with (first|((with_reducible (apply Calls.mono;first|exact cdk _|exact chk _));rintro e w' ⟨rfl,rfl⟩)|(go_at_call 47;(with_reducible refine(cp _).mono ?_);rintro e W2 ⟨rfl,hb⟩;(replace hN:=hN.go hb);clear hb;(have k0:W2.cell? ⟨w.heap.size,0,none⟩=some (.int .i64 0):=row_cellsX hN.h4 0);(have k1:W2.cell? ⟨w.heap.size,1,none⟩=some (.int .i64 0):=row_cellsX hN.h4 1);(have k2:W2.cell? ⟨w.heap.size,2,none⟩=some (.string ⟨#[]⟩):=row_cellsX hN.h4 2);(have k3:W2.cell? ⟨w.heap.size,3,none⟩=some (.int .i64 0):=row_cellsX hN.h4 3);(have k4:W2.cell? ⟨w.heap.size,4,none⟩=some (.int .u64 0):=row_cellsX hN.h4 4);(have k5:W2.cell? ⟨w.heap.size+1,0,none⟩=some (.int .i64 0):=row_cellsX hN.h6 0);(have k6:W2.cell? ⟨w.heap.size+1,1,none⟩=some (.int .i64 0):=row_cellsX hN.h6 1);(have z4:=row_thawX hN.h4);(have z6:=row_thawX hN.h6);(have HN2:=hid hN);clear hN))
           refine bodyPost_ret (nx_ret rfl _ _ w.heap.size (w.heap.size+1) _ _ _ _ _ _ _ _ (0,0) (0,0) rfl rfl rfl (HN2.out.fin _ _ _ _ _ _ _).1 (HN2.out.fin _ _ _ _ _ _ _).2.1) rfl ?_
           exact⟨by rw[HR.out];rfl,(HN2.out.fin _ _ _ _ _ _ _).2.2⟩
         ·have cdk:=cd s[j]
          rw[hb] at cdk
          clear g1 g2 g3 w1 w2 hb
          have hN:=HN.out
          rcases HW.out with⟨b1,hR⟩|⟨b1,hR⟩
          ·have HR:=hid hR
           clear hR HW
           go_wp2_with (first|((with_reducible (apply Calls.mono;first|exact cdk _|exact chk _));rintro e w' ⟨rfl,rfl⟩)|(go_at_call 47;(with_reducible refine(cp _).mono ?_);rintro e W2 ⟨rfl,hb⟩;(replace hN:=hN.go hb);clear hb)|(go_at_call 30;(with_reducible refine(cf _).mono ?_);rintro e W2 ⟨rfl,hb⟩;(replace hN:=hN.go hb);clear hb;(have k0:W2.cell? ⟨w.heap.size,0,none⟩=some (.int .i64 0):=row_cellsX hN.h4 0);(have k1:W2.cell? ⟨w.heap.size,1,none⟩=some (.int .i64 0):=row_cellsX hN.h4 1);(have k2:W2.cell? ⟨w.heap.size,2,none⟩=some (.string ⟨#[]⟩):=row_cellsX hN.h4 2);(have k3:W2.cell? ⟨w.heap.size,3,none⟩=some (.int .i64 0):=row_cellsX hN.h4 3);(have k4:W2.cell? ⟨w.heap.size,4,none⟩=some (.int .u64 0):=row_cellsX hN.h4 4);(have k5:W2.cell? ⟨w.heap.size+1,0,none⟩=some (.int .i64 0):=row_cellsX hN.h6 0);(have k6:W2.cell? ⟨w.heap.size+1,1,none⟩=some (.int .i64 0):=row_cellsX hN.h6 1);(have z4:=row_thawX hN.h4);(have z6:=row_thawX hN.h6);(have HN2:=hid hN);clear hN))
           refine bodyPost_ret (nx_ret rfl _ _ w.heap.size (w.heap.size+1) _ _ _ _ _ _ _ _ (0,0) (0,0) rfl rfl rfl (HN2.out.fin _ _ _ _ _ _ _).1 (HN2.out.fin _ _ _ _ _ _ _).2.1) rfl ?_
           exact⟨by rw[HR.out];rfl,(HN2.out.fin _ _ _ _ _ _ _).2.2⟩
          ·have HR:=hid hR
           subst b1
           clear hR HW
           go_wp2_with (first|((with_reducible (apply Calls.mono;first|exact cdk _|exact chk _));rintro e w' ⟨rfl,rfl⟩)|(go_at_call 47;(with_reducible refine(cp _).mono ?_);rintro e W2 ⟨rfl,hb⟩;(replace hN:=hN.go hb);clear hb;(have k0:W2.cell? ⟨w.heap.size,0,none⟩=some (.int .i64 0):=row_cellsX hN.h4 0);(have k1:W2.cell? ⟨w.heap.size,1,none⟩=some (.int .i64 0):=row_cellsX hN.h4 1);(have k2:W2.cell? ⟨w.heap.size,2,none⟩=some (.string ⟨#[]⟩):=row_cellsX hN.h4 2);(have k3:W2.cell? ⟨w.heap.size,3,none⟩=some (.int .i64 0):=row_cellsX hN.h4 3);(have k4:W2.cell? ⟨w.heap.size,4,none⟩=some (.int .u64 0):=row_cellsX hN.h4 4);(have k5:W2.cell? ⟨w.heap.size+1,0,none⟩=some (.int .i64 0):=row_cellsX hN.h6 0);(have k6:W2.cell? ⟨w.heap.size+1,1,none⟩=some (.int .i64 0):=row_cellsX hN.h6 1);(have z4:=row_thawX hN.h4);(have z6:=row_thawX hN.h6);(have HN2:=hid hN);clear hN))
           refine bodyPost_ret (nx_ret rfl _ _ w.heap.size (w.heap.size+1) _ _ _ _ _ _ _ _ (0,0) (0,0) rfl rfl rfl (HN2.out.fin _ _ _ _ _ _ _).1 (HN2.out.fin _ _ _ _ _ _ _).2.1) rfl ?_
           exact⟨by rw[HR.out];rfl,(HN2.out.fin _ _ _ _ _ _ _).2.2⟩)
     ·have HKK:=hid hk3
      clear hk3
      rcases hsg with hsg|⟨hl,hs1,hs2⟩
      ·have p1:¬ (K2:Int)<(s.size:Int):=λq=>hsg (z1z.1 q)
       go_wp2_with ((with_reducible (apply Calls.mono;first|exact cdk _|exact chk _));rintro e w' ⟨rfl,rfl⟩)
       go_loop [7] (λi=>∃j:Nat,i=.int .i64 j/\k3<=j/\j<=s.size/\runN digB (s.data.toList.drop j)+j=tE) (λi=>s.size-(intOf i).toNat)
       case atStart=>exact⟨k3,by first|(rw[HKK.out];done)|(rw[HKK.out];first|rfl|go_num),z2z _,H3.out.2,H3.out.1⟩
       case round=>
        obtain⟨j,rfl,g1,g2,g3⟩:=hrel
        obtain⟨w1,w2⟩:=wrap_in HS.out (z3z g2) (rfl:j+1=j+1)
        rcases run_ways digB s j g3 g2 with⟨c,b⟩|⟨ej,hx2⟩
        ·have cdk:=cd s[j]
         rw[b] at cdk
         have c1:(j:Int)<(s.size:Int):=z1z.2 c
         have c0:(0:Int)<=(j:Int):=z4z j
         have fin:=hid (run_next digB s c b g3)
         have HH:=hid (z0z g1 c)
         clear g1 g2 g3 b
         go_wp2_with (go_at_call 26;(with_reducible refine(cdk _).mono ?_);rintro e w' ⟨rfl,rfl⟩)
         go_round
         case rel=>exact⟨j+1,by first|rfl|go_num,z3z HH.out.1,HH.out.2,fin.out⟩
         case measure=>exact meas_up HH.out.2
        ·subst ej
         have hS:=HE.out
         have l1:(a:Int)<=(j:Int):=z12z.2 (z9z HK3.out g1)
         have l2:(j:Int)<=(s.size:Int):=z12z.2 g2
         rcases hx2 with hx2|⟨hj,hb⟩
         ·have ex:¬ (j:Int)<(s.size:Int):=λq=>hx2 (z1z.1 q)
          clear hx2 g1 g2 g3 w1 w2
          have hN:=HN.out
          rcases HW.out with⟨b1,hR⟩|⟨b1,hR⟩
          ·have HR:=hid hR
           clear hR HW
           go_wp2_with (first|((with_reducible (apply Calls.mono;first|exact cdk _|exact chk _));rintro e w' ⟨rfl,rfl⟩)|(go_at_call 47;(with_reducible refine(cp _).mono ?_);rintro e W2 ⟨rfl,hb⟩;(replace hN:=hN.go hb);clear hb)|(go_at_call 30;(with_reducible refine(cf _).mono ?_);rintro e W2 ⟨rfl,hb⟩;(replace hN:=hN.go hb);clear hb;(have k0:W2.cell? ⟨w.heap.size,0,none⟩=some (.int .i64 0):=row_cellsX hN.h4 0);(have k1:W2.cell? ⟨w.heap.size,1,none⟩=some (.int .i64 0):=row_cellsX hN.h4 1);(have k2:W2.cell? ⟨w.heap.size,2,none⟩=some (.string ⟨#[]⟩):=row_cellsX hN.h4 2);(have k3:W2.cell? ⟨w.heap.size,3,none⟩=some (.int .i64 0):=row_cellsX hN.h4 3);(have k4:W2.cell? ⟨w.heap.size,4,none⟩=some (.int .u64 0):=row_cellsX hN.h4 4);(have k5:W2.cell? ⟨w.heap.size+1,0,none⟩=some (.int .i64 0):=row_cellsX hN.h6 0);(have k6:W2.cell? ⟨w.heap.size+1,1,none⟩=some (.int .i64 0):=row_cellsX hN.h6 1);(have z4:=row_thawX hN.h4);(have z6:=row_thawX hN.h6);(have HN2:=hid hN);clear hN))
           refine bodyPost_ret (nx_ret rfl _ _ w.heap.size (w.heap.size+1) _ _ _ _ _ _ _ _ (0,0) (0,0) rfl rfl rfl (HN2.out.fin _ _ _ _ _ _ _).1 (HN2.out.fin _ _ _ _ _ _ _).2.1) rfl ?_
           exact⟨by rw[HR.out];rfl,(HN2.out.fin _ _ _ _ _ _ _).2.2⟩
          ·have HR:=hid hR
           subst b1
           clear hR HW
           go_wp2_with (first|((with_reducible (apply Calls.mono;first|exact cdk _|exact chk _));rintro e w' ⟨rfl,rfl⟩)|(go_at_call 47;(with_reducible refine(cp _).mono ?_);rintro e W2 ⟨rfl,hb⟩;(replace hN:=hN.go hb);clear hb;(have k0:W2.cell? ⟨w.heap.size,0,none⟩=some (.int .i64 0):=row_cellsX hN.h4 0);(have k1:W2.cell? ⟨w.heap.size,1,none⟩=some (.int .i64 0):=row_cellsX hN.h4 1);(have k2:W2.cell? ⟨w.heap.size,2,none⟩=some (.string ⟨#[]⟩):=row_cellsX hN.h4 2);(have k3:W2.cell? ⟨w.heap.size,3,none⟩=some (.int .i64 0):=row_cellsX hN.h4 3);(have k4:W2.cell? ⟨w.heap.size,4,none⟩=some (.int .u64 0):=row_cellsX hN.h4 4);(have k5:W2.cell? ⟨w.heap.size+1,0,none⟩=some (.int .i64 0):=row_cellsX hN.h6 0);(have k6:W2.cell? ⟨w.heap.size+1,1,none⟩=some (.int .i64 0):=row_cellsX hN.h6 1);(have z4:=row_thawX hN.h4);(have z6:=row_thawX hN.h6);(have HN2:=hid hN);clear hN))
           refine bodyPost_ret (nx_ret rfl _ _ w.heap.size (w.heap.size+1) _ _ _ _ _ _ _ _ (0,0) (0,0) rfl rfl rfl (HN2.out.fin _ _ _ _ _ _ _).1 (HN2.out.fin _ _ _ _ _ _ _).2.1) rfl ?_
           exact⟨by rw[HR.out];rfl,(HN2.out.fin _ _ _ _ _ _ _).2.2⟩
         ·have cdk:=cd s[j]
          rw[hb] at cdk
          clear g1 g2 g3 w1 w2 hb
          have hN:=HN.out
          rcases HW.out with⟨b1,hR⟩|⟨b1,hR⟩
          ·have HR:=hid hR
           clear hR HW
           go_wp2_with (first|((with_reducible (apply Calls.mono;first|exact cdk _|exact chk _));rintro e w' ⟨rfl,rfl⟩)|(go_at_call 47;(with_reducible refine(cp _).mono ?_);rintro e W2 ⟨rfl,hb⟩;(replace hN:=hN.go hb);clear hb)|(go_at_call 30;(with_reducible refine(cf _).mono ?_);rintro e W2 ⟨rfl,hb⟩;(replace hN:=hN.go hb);clear hb;(have k0:W2.cell? ⟨w.heap.size,0,none⟩=some (.int .i64 0):=row_cellsX hN.h4 0);(have k1:W2.cell? ⟨w.heap.size,1,none⟩=some (.int .i64 0):=row_cellsX hN.h4 1);(have k2:W2.cell? ⟨w.heap.size,2,none⟩=some (.string ⟨#[]⟩):=row_cellsX hN.h4 2);(have k3:W2.cell? ⟨w.heap.size,3,none⟩=some (.int .i64 0):=row_cellsX hN.h4 3);(have k4:W2.cell? ⟨w.heap.size,4,none⟩=some (.int .u64 0):=row_cellsX hN.h4 4);(have k5:W2.cell? ⟨w.heap.size+1,0,none⟩=some (.int .i64 0):=row_cellsX hN.h6 0);(have k6:W2.cell? ⟨w.heap.size+1,1,none⟩=some (.int .i64 0):=row_cellsX hN.h6 1);(have z4:=row_thawX hN.h4);(have z6:=row_thawX hN.h6);(have HN2:=hid hN);clear hN))
           refine bodyPost_ret (nx_ret rfl _ _ w.heap.size (w.heap.size+1) _ _ _ _ _ _ _ _ (0,0) (0,0) rfl rfl rfl (HN2.out.fin _ _ _ _ _ _ _).1 (HN2.out.fin _ _ _ _ _ _ _).2.1) rfl ?_
           exact⟨by rw[HR.out];rfl,(HN2.out.fin _ _ _ _ _ _ _).2.2⟩
          ·have HR:=hid hR
           subst b1
           clear hR HW
           go_wp2_with (first|((with_reducible (apply Calls.mono;first|exact cdk _|exact chk _));rintro e w' ⟨rfl,rfl⟩)|(go_at_call 47;(with_reducible refine(cp _).mono ?_);rintro e W2 ⟨rfl,hb⟩;(replace hN:=hN.go hb);clear hb;(have k0:W2.cell? ⟨w.heap.size,0,none⟩=some (.int .i64 0):=row_cellsX hN.h4 0);(have k1:W2.cell? ⟨w.heap.size,1,none⟩=some (.int .i64 0):=row_cellsX hN.h4 1);(have k2:W2.cell? ⟨w.heap.size,2,none⟩=some (.string ⟨#[]⟩):=row_cellsX hN.h4 2);(have k3:W2.cell? ⟨w.heap.size,3,none⟩=some (.int .i64 0):=row_cellsX hN.h4 3);(have k4:W2.cell? ⟨w.heap.size,4,none⟩=some (.int .u64 0):=row_cellsX hN.h4 4);(have k5:W2.cell? ⟨w.heap.size+1,0,none⟩=some (.int .i64 0):=row_cellsX hN.h6 0);(have k6:W2.cell? ⟨w.heap.size+1,1,none⟩=some (.int .i64 0):=row_cellsX hN.h6 1);(have z4:=row_thawX hN.h4);(have z6:=row_thawX hN.h6);(have HN2:=hid hN);clear hN))
           refine bodyPost_ret (nx_ret rfl _ _ w.heap.size (w.heap.size+1) _ _ _ _ _ _ _ _ (0,0) (0,0) rfl rfl rfl (HN2.out.fin _ _ _ _ _ _ _).1 (HN2.out.fin _ _ _ _ _ _ _).2.1) rfl ?_
           exact⟨by rw[HR.out];rfl,(HN2.out.fin _ _ _ _ _ _ _).2.2⟩
      ·have p1:(K2:Int)<(s.size:Int):=z1z.2 hl
       go_wp2_with ((with_reducible (apply Calls.mono;first|exact cdk _|exact chk _));rintro e w' ⟨rfl,rfl⟩)
       go_loop [7] (λi=>∃j:Nat,i=.int .i64 j/\k3<=j/\j<=s.size/\runN digB (s.data.toList.drop j)+j=tE) (λi=>s.size-(intOf i).toNat)
       case atStart=>exact⟨k3,by first|(rw[HKK.out];done)|(rw[HKK.out];first|rfl|go_num),z2z _,H3.out.2,H3.out.1⟩
       case round=>
        obtain⟨j,rfl,g1,g2,g3⟩:=hrel
        obtain⟨w1,w2⟩:=wrap_in HS.out (z3z g2) (rfl:j+1=j+1)
        rcases run_ways digB s j g3 g2 with⟨c,b⟩|⟨ej,hx2⟩
        ·have cdk:=cd s[j]
         rw[b] at cdk
         have c1:(j:Int)<(s.size:Int):=z1z.2 c
         have c0:(0:Int)<=(j:Int):=z4z j
         have fin:=hid (run_next digB s c b g3)
         have HH:=hid (z0z g1 c)
         clear g1 g2 g3 b
         go_wp2_with (go_at_call 26;(with_reducible refine(cdk _).mono ?_);rintro e w' ⟨rfl,rfl⟩)
         go_round
         case rel=>exact⟨j+1,by first|rfl|go_num,z3z HH.out.1,HH.out.2,fin.out⟩
         case measure=>exact meas_up HH.out.2
        ·subst ej
         have hS:=HE.out
         have l1:(a:Int)<=(j:Int):=z12z.2 (z9z HK3.out g1)
         have l2:(j:Int)<=(s.size:Int):=z12z.2 g2
         rcases hx2 with hx2|⟨hj,hb⟩
         ·have ex:¬ (j:Int)<(s.size:Int):=λq=>hx2 (z1z.1 q)
          clear hx2 g1 g2 g3 w1 w2
          have hN:=HN.out
          rcases HW.out with⟨b1,hR⟩|⟨b1,hR⟩
          ·have HR:=hid hR
           clear hR HW
           go_wp2_with (first|((with_reducible (apply Calls.mono;first|exact cdk _|exact chk _));rintro e w' ⟨rfl,rfl⟩)|(go_at_call 47;(with_reducible refine(cp _).mono ?_);rintro e W2 ⟨rfl,hb⟩;(replace hN:=hN.go hb);clear hb)|(go_at_call 30;(with_reducible refine(cf _).mono ?_);rintro e W2 ⟨rfl,hb⟩;(replace hN:=hN.go hb);clear hb;(have k0:W2.cell? ⟨w.heap.size,0,none⟩=some (.int .i64 0):=row_cellsX hN.h4 0);(have k1:W2.cell? ⟨w.heap.size,1,none⟩=some (.int .i64 0):=row_cellsX hN.h4 1);(have k2:W2.cell? ⟨w.heap.size,2,none⟩=some (.string ⟨#[]⟩):=row_cellsX hN.h4 2);(have k3:W2.cell? ⟨w.heap.size,3,none⟩=some (.int .i64 0):=row_cellsX hN.h4 3);(have k4:W2.cell? ⟨w.heap.size,4,none⟩=some (.int .u64 0):=row_cellsX hN.h4 4);(have k5:W2.cell? ⟨w.heap.size+1,0,none⟩=some (.int .i64 0):=row_cellsX hN.h6 0);(have k6:W2.cell? ⟨w.heap.size+1,1,none⟩=some (.int .i64 0):=row_cellsX hN.h6 1);(have z4:=row_thawX hN.h4);(have z6:=row_thawX hN.h6);(have HN2:=hid hN);clear hN))
           refine bodyPost_ret (nx_ret rfl _ _ w.heap.size (w.heap.size+1) _ _ _ _ _ _ _ _ (0,0) (0,0) rfl rfl rfl (HN2.out.fin _ _ _ _ _ _ _).1 (HN2.out.fin _ _ _ _ _ _ _).2.1) rfl ?_
           exact⟨by rw[HR.out];rfl,(HN2.out.fin _ _ _ _ _ _ _).2.2⟩
          ·have HR:=hid hR
           subst b1
           clear hR HW
           go_wp2_with (first|((with_reducible (apply Calls.mono;first|exact cdk _|exact chk _));rintro e w' ⟨rfl,rfl⟩)|(go_at_call 47;(with_reducible refine(cp _).mono ?_);rintro e W2 ⟨rfl,hb⟩;(replace hN:=hN.go hb);clear hb;(have k0:W2.cell? ⟨w.heap.size,0,none⟩=some (.int .i64 0):=row_cellsX hN.h4 0);(have k1:W2.cell? ⟨w.heap.size,1,none⟩=some (.int .i64 0):=row_cellsX hN.h4 1);(have k2:W2.cell? ⟨w.heap.size,2,none⟩=some (.string ⟨#[]⟩):=row_cellsX hN.h4 2);(have k3:W2.cell? ⟨w.heap.size,3,none⟩=some (.int .i64 0):=row_cellsX hN.h4 3);(have k4:W2.cell? ⟨w.heap.size,4,none⟩=some (.int .u64 0):=row_cellsX hN.h4 4);(have k5:W2.cell? ⟨w.heap.size+1,0,none⟩=some (.int .i64 0):=row_cellsX hN.h6 0);(have k6:W2.cell? ⟨w.heap.size+1,1,none⟩=some (.int .i64 0):=row_cellsX hN.h6 1);(have z4:=row_thawX hN.h4);(have z6:=row_thawX hN.h6);(have HN2:=hid hN);clear hN))
           refine bodyPost_ret (nx_ret rfl _ _ w.heap.size (w.heap.size+1) _ _ _ _ _ _ _ _ (0,0) (0,0) rfl rfl rfl (HN2.out.fin _ _ _ _ _ _ _).1 (HN2.out.fin _ _ _ _ _ _ _).2.1) rfl ?_
           exact⟨by rw[HR.out];rfl,(HN2.out.fin _ _ _ _ _ _ _).2.2⟩
         ·have cdk:=cd s[j]
          rw[hb] at cdk
          clear g1 g2 g3 w1 w2 hb
          have hN:=HN.out
          rcases HW.out with⟨b1,hR⟩|⟨b1,hR⟩
          ·have HR:=hid hR
           clear hR HW
           go_wp2_with (first|((with_reducible (apply Calls.mono;first|exact cdk _|exact chk _));rintro e w' ⟨rfl,rfl⟩)|(go_at_call 47;(with_reducible refine(cp _).mono ?_);rintro e W2 ⟨rfl,hb⟩;(replace hN:=hN.go hb);clear hb)|(go_at_call 30;(with_reducible refine(cf _).mono ?_);rintro e W2 ⟨rfl,hb⟩;(replace hN:=hN.go hb);clear hb;(have k0:W2.cell? ⟨w.heap.size,0,none⟩=some (.int .i64 0):=row_cellsX hN.h4 0);(have k1:W2.cell? ⟨w.heap.size,1,none⟩=some (.int .i64 0):=row_cellsX hN.h4 1);(have k2:W2.cell? ⟨w.heap.size,2,none⟩=some (.string ⟨#[]⟩):=row_cellsX hN.h4 2);(have k3:W2.cell? ⟨w.heap.size,3,none⟩=some (.int .i64 0):=row_cellsX hN.h4 3);(have k4:W2.cell? ⟨w.heap.size,4,none⟩=some (.int .u64 0):=row_cellsX hN.h4 4);(have k5:W2.cell? ⟨w.heap.size+1,0,none⟩=some (.int .i64 0):=row_cellsX hN.h6 0);(have k6:W2.cell? ⟨w.heap.size+1,1,none⟩=some (.int .i64 0):=row_cellsX hN.h6 1);(have z4:=row_thawX hN.h4);(have z6:=row_thawX hN.h6);(have HN2:=hid hN);clear hN))
           refine bodyPost_ret (nx_ret rfl _ _ w.heap.size (w.heap.size+1) _ _ _ _ _ _ _ _ (0,0) (0,0) rfl rfl rfl (HN2.out.fin _ _ _ _ _ _ _).1 (HN2.out.fin _ _ _ _ _ _ _).2.1) rfl ?_
           exact⟨by rw[HR.out];rfl,(HN2.out.fin _ _ _ _ _ _ _).2.2⟩
          ·have HR:=hid hR
           subst b1
           clear hR HW
           go_wp2_with (first|((with_reducible (apply Calls.mono;first|exact cdk _|exact chk _));rintro e w' ⟨rfl,rfl⟩)|(go_at_call 47;(with_reducible refine(cp _).mono ?_);rintro e W2 ⟨rfl,hb⟩;(replace hN:=hN.go hb);clear hb;(have k0:W2.cell? ⟨w.heap.size,0,none⟩=some (.int .i64 0):=row_cellsX hN.h4 0);(have k1:W2.cell? ⟨w.heap.size,1,none⟩=some (.int .i64 0):=row_cellsX hN.h4 1);(have k2:W2.cell? ⟨w.heap.size,2,none⟩=some (.string ⟨#[]⟩):=row_cellsX hN.h4 2);(have k3:W2.cell? ⟨w.heap.size,3,none⟩=some (.int .i64 0):=row_cellsX hN.h4 3);(have k4:W2.cell? ⟨w.heap.size,4,none⟩=some (.int .u64 0):=row_cellsX hN.h4 4);(have k5:W2.cell? ⟨w.heap.size+1,0,none⟩=some (.int .i64 0):=row_cellsX hN.h6 0);(have k6:W2.cell? ⟨w.heap.size+1,1,none⟩=some (.int .i64 0):=row_cellsX hN.h6 1);(have z4:=row_thawX hN.h4);(have z6:=row_thawX hN.h6);(have HN2:=hid hN);clear hN))
           refine bodyPost_ret (nx_ret rfl _ _ w.heap.size (w.heap.size+1) _ _ _ _ _ _ _ _ (0,0) (0,0) rfl rfl rfl (HN2.out.fin _ _ _ _ _ _ _).1 (HN2.out.fin _ _ _ _ _ _ _).2.1) rfl ?_
           exact⟨by rw[HR.out];rfl,(HN2.out.fin _ _ _ _ _ _ _).2.2⟩
theorem pow_other(c:UInt8)(d:List UInt8)(h:c≠112):powN (c::d)=0:=by unfold powN;split <;> simp_all
theorem pow_plain(c:UInt8)(d:List UInt8)(h1:c≠43)(h2:c≠45):powN (112::c::d)=1+runN digB (c::d):=by unfold powN;split <;> simp_all
theorem eqI_true{c:UInt8}{n:Nat}(h:c.toNat=n):((c.toNat:Int)==(n:Int))=true:=by rw[h];simp
theorem eqI_false{c:UInt8}{n:Nat}(h:¬c.toNat=n):((c.toNat:Int)==(n:Int))=false:=by
 rw[beq_eq_false_iff_ne];intro q;exact h (by omega)
theorem u8_notN{c:UInt8}{n:Nat}(hn:n<256)(h:¬c.toNat=n):c≠n.toUInt8:=by
 intro q;apply h;rw[q];simp[Nat.toUInt8,UInt8.toNat_ofNat,Nat.mod_eq_of_lt hn]
theorem pow_ways(s:ByteArray)(k1 K2 tE:Nat)(hk:k1<=s.size)(hK2:k1+1=K2)(hE:tE=k1+powN (s.data.toList.drop k1)) :
  (tE=k1/\(¬k1<s.size\/∃h:k1<s.size,((s[k1].toNat:Int)==112)=false))\/(∃h:k1<s.size,((s[k1].toNat:Int)==112)=true/\∃k3,k1<=k3/\(runN digB (s.data.toList.drop k3)+k3=tE/\k3<=s.size)/\((k3=K2+1/\∃h:K2<s.size,((s[K2].toNat:Int)==43)=true\/(((s[K2].toNat:Int)==43)=false/\((s[K2].toNat:Int)==45)=true))\/(k3=K2/\(¬K2<s.size\/∃h:K2<s.size,((s[K2].toNat:Int)==43)=false/\((s[K2].toNat:Int)==45)=false)))):=by
 by_cases h:k1<s.size
 ·have hd:=drop_cons s k1 h
  by_cases hp:s[k1].toNat=112
  ·right
   refine⟨h,eqI_true hp,?_⟩
   have hc:s[k1]=112:=u8_is hp
   rw[hd,hc,hK2] at hE
   by_cases h2:K2<s.size
   ·have hd2:=drop_cons s K2 h2
    rw[hd2] at hE
    by_cases g1:s[K2].toNat=43
    ·have hc2:s[K2]=43:=u8_is g1
     rw[hc2] at hE
     have e:powN (112::43::s.data.toList.drop (K2+1))=2+runN digB (s.data.toList.drop (K2+1)):=rfl
     rw[e] at hE
     exact⟨K2+1,by omega,⟨by omega,by omega⟩,.inl ⟨rfl,h2,.inl (eqI_true g1)⟩⟩
    ·by_cases g2:s[K2].toNat=45
     ·have hc2:s[K2]=45:=u8_is g2
      rw[hc2] at hE
      have e:powN (112::45::s.data.toList.drop (K2+1))=2+runN digB (s.data.toList.drop (K2+1)):=rfl
      rw[e] at hE
      exact⟨K2+1,by omega,⟨by omega,by omega⟩,.inl ⟨rfl,h2,.inr ⟨eqI_false g1,eqI_true g2⟩⟩⟩
     ·rw[pow_plain _ _ (u8_notN (by decide) g1) (u8_notN (by decide) g2),<- hd2] at hE
      exact⟨K2,by omega,⟨by omega,by omega⟩,.inr ⟨rfl,.inr ⟨h2,eqI_false g1,eqI_false g2⟩⟩⟩
   ·rw[z11z (by rw[size_list];omega)] at hE
    have e:powN [112]=1:=rfl
    rw[e] at hE
    refine⟨K2,by omega,⟨?_,by omega⟩,.inr ⟨rfl,.inl h2⟩⟩
    rw[z11z (by rw[size_list];omega)]
    have e2:runN digB []=0:=rfl
    omega
  ·left
   rw[hd,pow_other _ _ (u8_notN (by decide) hp)] at hE
   exact⟨by omega,.inr ⟨h,eqI_false hp⟩⟩
 ·left
  rw[z11z (by rw[size_list];omega)] at hE
  have e:powN []=0:=rfl
  exact⟨by omega,.inl h⟩
theorem rNumber_c(s:ByteArray)(hs:s.size<=1000000)(a:Nat)(ha:a<s.size)(hd:digB s[a]=true)(w:World) :
  Calls prog 27 #[.string s,.int .i64 a] w λe w'=>e=.returned (nxR (orPc (doubleP (s.data.toList.drop a)) (wholeP (s.data.toList.drop a))) a)/\Below w.heap.size w w':=by
 have hcs:=drop_cons s a ha
 by_cases hx:(s.data.toList.drop a).take 2=hexT
 ·have ha1:a+1<s.size:=by
   have:=congrArg List.length hx
   rw[z19z,z6z,size_list] at this
   have e:hexT.length=2:=rfl
   omega
  have hcs1:=drop_cons s (a+1) ha1
  have hx':=hx
  rw[hcs,hcs1] at hx'
  have e0:s[a]=48:=(z10z.inj hx').1
  have e1:s[a+1]=120:=(z10z.inj (z10z.inj hx').2).1
  have dd:∀m,(s.data.toList.drop a).drop m=s.data.toList.drop (a+m):=λm=>by rw[z15z]
  obtain⟨k1,hk1⟩:∃k1,runN hexPB (s.data.toList.drop (a+2))+(a+2)=k1:=⟨_,rfl⟩
  obtain⟨n,hn⟩:∃n,dblN (s.data.toList.drop a)=n:=⟨_,rfl⟩
  have hl1:=runN_le hexPB (s.data.toList.drop (a+2))
  rw[z6z,size_list] at hl1
  have hk1s:k1<=s.size:=by omega
  have hn':a+n=k1+powN (s.data.toList.drop k1):=by
   rw[<- hn]
   unfold dblN
   rw[dd,dd]
   have:a+(2+runN hexPB (s.data.toList.drop (a+2)))=k1:=by omega
   rw[this]
   omega
  have n0:n≠0:=by omega
  obtain⟨S,hS⟩:∃S,s.extract a (a+n)=S:=⟨_,rfl⟩
  have hSl:S.data.toList=(s.data.toList.drop a).take n:=by rw[<- hS,ext_take]
  have hSs:S.size<=1000000:=by
   rw[<- size_list,hSl,z19z,z6z,size_list];omega
  have cp:=λw=>refParseFloat_c S (z9z hSs (by unfold maxLen;decide)) w
  unfold pfV at cp
  rw[hSl] at cp
  refine rHexN_core s S hs a (a+1) (a+2) k1 (a+n) rfl rfl ha ha1 (by rw[e0];rfl) (by rw[e1];rfl) hk1 hS _ _ cp (k1+1) rfl (pow_ways s k1 (k1+1) (a+n) hk1s rfl hn') _ ?_ w
  have hdb:doubleP (s.data.toList.drop a)=if (readF ((s.data.toList.drop a).take n)).2=0 then okPc ⟨5,⟨#[]⟩,0,(readF ((s.data.toList.drop a).take n)).1⟩ n else badPc n 62:=by
   rw[<- hn];exact if_pos hx
  rw[hdb]
  by_cases hz:(readF ((s.data.toList.drop a).take n)).2=0
  ·right
   refine⟨hz,?_⟩
   rw[if_pos hz]
   have:orPc (okPc ⟨5,⟨#[]⟩,0,(readF ((s.data.toList.drop a).take n)).1⟩ n) (wholeP (s.data.toList.drop a))=okPc ⟨5,⟨#[]⟩,0,(readF ((s.data.toList.drop a).take n)).1⟩ n:=if_neg n0
   rw[this,nx_ok _ n a n0]
  ·left
   refine⟨hz,?_⟩
   rw[if_neg hz]
   have:orPc (badPc n 62) (wholeP (s.data.toList.drop a))=badPc n 62:=if_neg n0
   rw[this,nx_bad n 62 a n0 (by decide)]
 ·have hdb:doubleP (s.data.toList.drop a)=noPc:=if_neg hx
  rw[hdb,or_no]
  obtain⟨n,hn⟩:∃n,runN digB (s.data.toList.drop a)=n:=⟨_,rfl⟩
  have n0:n≠0:=by rw[<- hn,hcs,runN_cons_t hd];omega
  have hl:=runN_le digB (s.data.toList.drop a)
  rw[z6z,size_list] at hl
  obtain⟨S,hS⟩:∃S,s.extract a (a+n)=S:=⟨_,rfl⟩
  have hSl:S.data.toList=(s.data.toList.drop a).take n:=by rw[<- hS,ext_take]
  have hSs:S.size<=1000000:=by
   rw[<- size_list,hSl,z19z,z6z,size_list];omega
  have cp:=λw=>refParseInt_c S (z9z hSs (by unfold maxLen;decide)) w
  rw[hSl] at cp
  have hw:wholeP (s.data.toList.drop a)=if (readI ((s.data.toList.drop a).take n)).2=0 then okPc ⟨4,⟨#[]⟩,(readI ((s.data.toList.drop a).take n)).1,0⟩ n else badPc n 62:=by
   rw[<- hn];exact if_neg (by rw[hn];exact n0)
  rw[hw]
  refine rWhole_core s S hs a n (a+n) ha rfl n0 (by omega) hn hS _ _ cp ?_ _ ?_ w
  ·by_cases q0:s[a].toNat=48
   ·right
    refine⟨eqI_true q0,?_⟩
    by_cases q1:a+1<s.size
    ·right
     refine⟨q1,eqI_false ?_⟩
     intro q2
     apply hx
     have e0:s[a]=48:=u8_is q0
     have e1:s[a+1]=120:=u8_is q2
     rw[hcs,drop_cons s (a+1) q1,e0,e1]
     rfl
    ·left;omega
   ·exact .inl (eqI_false q0)
  ·by_cases hz:(readI ((s.data.toList.drop a).take n)).2=0
   ·right
    refine⟨hz,?_⟩
    rw[if_pos hz,nx_ok _ n a n0]
   ·left
    refine⟨hz,?_⟩
    rw[if_neg hz,nx_bad n 62 a n0 (by decide)]
def badS(a:Nat):Value:=.tuple #[tv noTk 0,.int .i64 (a:Nat),.agg #[.int .i64 61,.int .i64 (a:Nat)]]
def goS(s:ByteArray)(a f j:Nat)(acc:List UInt8):Value:=nxR (quoteGo f (s.data.toList.drop j) (j-a) acc) a
theorem goS_end(s:ByteArray)(a f j:Nat)(acc:List UInt8)(h1:a<j)(h:¬j<s.size):goS s a f j acc=badS a:=by
 unfold goS badS
 rw[z11z (by rw[size_list];omega),quote_end,nx_bad _ 61 a (by omega) (by decide)]
theorem goS_stop(s:ByteArray)(a f j:Nat)(acc:List UInt8)(h1:a<j)(hf:0<f)(h:j<s.size)(hq:s[j].toNat=34):goS s a f j acc=.tuple #[tv ⟨6,bytesOf acc,0,0⟩ (a:Nat),.int .i64 ((j+1:Nat):Int),.agg #[.int .i64 0,.int .i64 0]]:=by
 unfold goS
 have e:a+(j-a+1)=j+1:=by omega
 rw[drop_cons s j h,quote_stop f _ _ _ acc hf (u8_is hq),nx_ok _ _ a (by omega),e]
theorem goS_bad(s:ByteArray)(a f j:Nat)(acc:List UInt8)(h1:a<j)(hf:0<f)(h:j<s.size)(hq:¬s[j].toNat=34)(hz:(speltP (s.data.toList.drop j)).2=0):goS s a f j acc=badS a:=by
 unfold goS badS
 have hd:=drop_cons s j h
 rw[hd] at hz ⊢
 rw[quote_bad f _ _ _ acc hf (u8_notN (by decide) hq) hz,nx_bad _ 61 a (by omega) (by decide)]
theorem goS_on(s:ByteArray)(a f j m:Nat)(c:UInt8)(acc:List UInt8)(h1:a<j)(h:j<s.size)(hq:¬s[j].toNat=34)(hm:m≠0)(hz:speltP (s.data.toList.drop j)=(c.toNat,m)):goS s a (f+1) j acc=goS s a f (j+m) (acc++[c]):=by
 unfold goS
 have hd:=drop_cons s j h
 have e2:(speltP (s.data.toList.drop j)).2=m:=by rw[hz]
 have e1:(speltP (s.data.toList.drop j)).1.toUInt8=c:=by rw[hz];simp
 have e3:j+m-a=j-a+m:=by omega
 rw[e3]
 have:=quote_on f (j-a) s[j] (s.data.toList.drop (j+1)) acc (u8_notN (by decide) hq) (by rw[<- hd,e2];exact hm)
 rw[<- hd,e2,e1,z15z] at this
 rw[this]
theorem sp_one(s:ByteArray)(j:Nat)(h:j<s.size)(h1:¬s[j].toNat<32)(h2:¬126<s[j].toNat)(h3:¬s[j].toNat=92):speltP (s.data.toList.drop j)=(s[j].toNat,1):=by
 rw[drop_cons s j h]
 exact(spelt_head _ _).2 (by omega) (u8_notN (by decide) h3)
theorem sp_none(s:ByteArray)(j:Nat)(h:j<s.size)(h1:s[j].toNat<32\/126<s[j].toNat):(speltP (s.data.toList.drop j)).2=0:=by
 rw[drop_cons s j h,(spelt_head _ _).1 h1]
theorem sp_last(s:ByteArray)(j J1:Nat)(hJ1:j+1=J1)(h:j<s.size)(h1:s[j].toNat=92)(h2:¬J1<s.size):(speltP (s.data.toList.drop j)).2=0:=by
 subst hJ1
 have e:s[j]=92:=u8_is h1
 rw[drop_cons s j h,e,(spelt_esc _).1 (z11z (by rw[size_list];omega))]
theorem sp_self(s:ByteArray)(j J1 J2 J3:Nat)(hJ1:j+1=J1)(hJ2:j+2=J2)(hJ3:j+3=J3)(h:j<s.size)(h1:s[j].toNat=92)(h2:J1<s.size)(h3:s[J1].toNat=92\/s[J1].toNat=34):speltP (s.data.toList.drop j)=(s[J1].toNat,2):=by
 subst hJ1;subst hJ2;subst hJ3
 have e:s[j]=92:=u8_is h1
 rw[drop_cons s j h,e]
 obtain⟨k1,k2,k3,k4,k5⟩:=(spelt_esc (s.data.toList.drop (j+1))).2 _ _ (drop_cons s (j+1) h2)
 rcases h3 with h3|h3
 ·rw[k1 (u8_is h3),h3]
 ·rw[k2 (u8_is h3),h3]
theorem sp_line(s:ByteArray)(j J1 J2 J3:Nat)(hJ1:j+1=J1)(hJ2:j+2=J2)(hJ3:j+3=J3)(h:j<s.size)(h1:s[j].toNat=92)(h2:J1<s.size)(h3:s[J1].toNat=110):speltP (s.data.toList.drop j)=((10:UInt8).toNat,2):=by
 subst hJ1;subst hJ2;subst hJ3
 have e:s[j]=92:=u8_is h1
 rw[drop_cons s j h,e]
 obtain⟨k1,k2,k3,k4,k5⟩:=(spelt_esc (s.data.toList.drop (j+1))).2 _ _ (drop_cons s (j+1) h2)
 rw[k3 (u8_is h3)];rfl
theorem sp_other(s:ByteArray)(j J1 J2 J3:Nat)(hJ1:j+1=J1)(hJ2:j+2=J2)(hJ3:j+3=J3)(h:j<s.size)(h1:s[j].toNat=92)(h2:J1<s.size)(g1:¬s[J1].toNat=92)(g2:¬s[J1].toNat=34)(g3:¬s[J1].toNat=110)(g4:¬s[J1].toNat=120):(speltP (s.data.toList.drop j)).2=0:=by
 subst hJ1;subst hJ2;subst hJ3
 have e:s[j]=92:=u8_is h1
 rw[drop_cons s j h,e]
 obtain⟨k1,k2,k3,k4,k5⟩:=(spelt_esc (s.data.toList.drop (j+1))).2 _ _ (drop_cons s (j+1) h2)
 rw[k5 (u8_notN (by decide) g1) (u8_notN (by decide) g2) (u8_notN (by decide) g3) (u8_notN (by decide) g4)]
theorem sp_hex(s:ByteArray)(j J1 J2 J3:Nat)(hJ1:j+1=J1)(hJ2:j+2=J2)(hJ3:j+3=J3)(h:j<s.size)(h1:s[j].toNat=92)(h2:J1<s.size)(h3:s[J1].toNat=120)(h4:J2<s.size)(h5:J3<s.size) :
  (0<=hexV s[J2]->0<=hexV s[J3]->∃c:UInt8,(c.toNat:Int)=16*hexV s[J2]+hexV s[J3]/\speltP (s.data.toList.drop j)=(c.toNat,4))/\((¬0<=hexV s[J2]\/¬0<=hexV s[J3])->(speltP (s.data.toList.drop j)).2=0):=by
 subst hJ1;subst hJ2;subst hJ3
 have e:s[j]=92:=u8_is h1
 have e':s[j+1]=120:=u8_is h3
 have hd:s.data.toList.drop j=92::120::s[j+2]::s[j+3]::s.data.toList.drop (j+4):=by
  rw[drop_cons s j h,drop_cons s (j+1) h2,drop_cons s (j+2) h4,drop_cons s (j+3) h5,e,e']
 have hs:speltP (s.data.toList.drop j)=if hexB s[j+2]=true/\hexB s[j+3]=true then ((16*hexV s[j+2]+hexV s[j+3]).toNat,4) else (0,0):=by
  rw[hd];rfl
 constructor
 ·intro a b
  have:=hexV_lt s[j+2]
  have:=hexV_lt s[j+3]
  refine⟨(16*hexV s[j+2]+hexV s[j+3]).toNat.toUInt8,?_,?_⟩
  ·simp;omega
  ·rw[hs,if_pos ⟨decide_eq_true a,decide_eq_true b⟩]
   congr 1
   simp;omega
 ·intro a
  rw[hs,if_neg]
  rintro⟨b1,b2⟩
  have b1:0<=hexV s[j+2]:=of_decide_eq_true b1
  have b2:0<=hexV s[j+3]:=of_decide_eq_true b2
  rcases a with a|a
  ·exact a b1
  ·exact a b2
theorem sp_short(s:ByteArray)(j J1 J2 J3:Nat)(hJ1:j+1=J1)(hJ2:j+2=J2)(hJ3:j+3=J3)(h:j<s.size)(h1:s[j].toNat=92)(h2:J1<s.size)(h3:s[J1].toNat=120)(h4:¬J3<s.size):(speltP (s.data.toList.drop j)).2=0:=by
 subst hJ1;subst hJ2;subst hJ3
 have e:s[j]=92:=u8_is h1
 have hl:(s.data.toList.drop (j+1)).length<3:=by rw[z6z,size_list];omega
 rw[drop_cons s j h,e]
 obtain⟨k1,k2,k3,k4,k5⟩:=(spelt_esc (s.data.toList.drop (j+1))).2 _ _ (drop_cons s (j+1) h2)
 rw[k4 (u8_is h3),hexBP_short _ (by rw[List.length_cons];omega)]
theorem next_ok{a j f n m J L:Nat}(h1:a<j)(h3:n<=j+(f+1))(h4:L<=j)(eJ:j+m=J)(hm:0<m)(hJ:J<=n):a<J/\n<=J+f/\L+1<=J/\j<J:=by omega
theorem two_le{j J1 J2 n:Nat}(hJ1:j+1=J1)(hJ2:j+2=J2)(d:J1<n):J2<=n:=by omega
theorem one_le{j J1 n:Nat}(hJ1:j+1=J1)(d:j<n):J1<=n:=by omega
theorem steps{j J1 J2 J3 n:Nat}(hJ1:j+1=J1)(hJ2:j+2=J2)(hJ3:j+3=J3)(h:j<=n):J1<=n+1/\J1+1=J2/\J1+2=J3:=by omega
theorem three_lt{j J2 J3 n:Nat}(hJ2:j+2=J2)(hJ3:j+3=J3)(d:J3<n):J2<n:=by omega
theorem len_ok{L j n:Nat}(h4:L<=j)(h:j<=n)(hn:n<=1000000):L+1<=2000000:=by omega
theorem pred_ok{f:Nat}(h:0<f):∃g,f=g+1:=⟨f-1,by omega⟩
theorem meas_to{n j J:Nat}(h:j<J)(h2:J<=n):n-(intOf (.int .i64 (J:Int))).toNat<n-(intOf (.int .i64 (j:Int))).toNat:=by
 simp[intOf];omega
theorem wrap_two{s:ByteArray}(hs:s.size<=1000000){j m:Nat}(hj:j<=s.size+1)(h:j+2=m):z7z.wrap ((j:Int)+2)=(m:Int)/\wrap64 ((j:Int)+2)=(m:Int):=by
 constructor
 ·rw[z8z];omega
 ·unfold wrap64;omega
theorem Nx0.cells{w W:World}(h:Nx0 w W):W.cell? ⟨w.heap.size,0,none⟩=some (.int .i64 0)/\W.cell? ⟨w.heap.size,1,none⟩=some (.int .i64 0)/\W.cell? ⟨w.heap.size,2,none⟩=some (.string ⟨#[]⟩)/\W.cell? ⟨w.heap.size,3,none⟩=some (.int .i64 0)/\W.cell? ⟨w.heap.size,4,none⟩=some (.int .u64 0)/\W.cell? ⟨w.heap.size+1,0,none⟩=some (.int .i64 0)/\W.cell? ⟨w.heap.size+1,1,none⟩=some (.int .i64 0):=
 ⟨row_cellsX h.h4 0,row_cellsX h.h4 1,row_cellsX h.h4 2,row_cellsX h.h4 3,row_cellsX h.h4 4,row_cellsX h.h6 0,row_cellsX h.h6 1⟩
theorem Nx0.grown{w W W':World}(h:Nx0 w W){v:Value}{n:Nat}{xs:List Value}(o:W.ownsRow w.heap.size 5 1 v n xs)(g:W.grownBy W' v.ownBlock)(hl:∀k,v.ownBlock=some k->w.heap.size<=k):Nx0 w W':=
  ⟨h.bel.grown g h.bel.size hl,
   (((It.Upd.refl (λj=>_) _).grown g (λj e=>.inl e)).block w.heap.size (z20z.1 h.h4).1 (own_neX o h.h4 (by decide))).trans h.h4,
   (((It.Upd.refl (λj=>_) _).grown g (λj e=>.inl e)).block (w.heap.size+1) (z20z.1 h.h6).1 (own_neX o h.h6 (by decide))).trans h.h6⟩
theorem four_le{j J3 J4 n:Nat}(hJ3:j+3=J3)(hJ4:j+4=J4)(d:J3<n):J4<=n:=by omega
theorem three_up{j J3 n:Nat}(hJ3:j+3=J3)(d:J3<n):J3<=n+1:=by omega
theorem three_four{j J3 J4:Nat}(hJ3:j+3=J3)(hJ4:j+4=J4):J3+1=J4:=by omega
theorem hex_sum(x y c:UInt8)(h1:0<=hexV x)(h2:0<=hexV y)(h:(c.toNat:Int)=16*hexV x+hexV y):z7z.wrap (16*hexV x)=16*hexV x/\wrap64 (16*hexV x)=16*hexV x/\z7z.wrap (16*hexV x+hexV y)=(c.toNat:Int)/\wrap64 (16*hexV x+hexV y)=(c.toNat:Int)/\IntKind.u8.wrap (c.toNat:Int)=(c.toNat:Int)/\((c.toNat:Int)%256=(c.toNat:Int)):=by
 have a1:=hexV_lt x
 have a2:=hexV_lt y
 have a3:=c.toNat_lt
 refine⟨?_,?_,?_,?_,?_,?_⟩
 ·rw[z8z];omega
 ·unfold wrap64;omega
 ·rw[z8z];omega
 ·unfold wrap64;omega
 ·simp[IntKind.wrap,IntKind.signed,IntKind.bits];omega
 ·omega
theorem rText_core(s:ByteArray)(hs:s.size<=1000000)(a F:Nat)(ha:a<s.size)(hF:s.size<=a+1+F)(RV:Value)(hR:goS s a F (a+1) []=RV)(w:World) :
  Calls prog 28 #[.string s,.int .i64 a] w λe w'=>e=.returned RV/\Below w.heap.size w w':=by
 have cf:=rFault_c 61 a
 simp only[tv,noTk] at cf
 have hN:=Nx0.start w
 obtain⟨a2,a3⟩:=wrap_in hs (z3z (Nat.le_of_lt ha)) (rfl:a+1=a+1)
 have HS:=hid hs
 have HA:=hid ha
 have HF:=hid hF
 have HR0:=hid hR
 obtain⟨i0,hi,hz0,hz1,hz2⟩:=info_parts infoB
 clear hs ha hF hR
 go_enter func28,ntmps28
 go_upto_region 1 with fail
 generalize z14z (z14z w _) _=W at *
 have hO:=World.ownsRow_lit (base:=w.heap.size) (e:=5) (size:=1) W #[] 0 hN.bel.size (by simp) (by simp)
 replace hN:=hN.go ((z13z _ W).alloc (z2z _) (.cells #[] 5))
 have HO:=hid hO
 clear hO
 go_upto_region 2 with fail
 generalize z14z W _=W3 at *
 have HN:=hid hN
 clear hN
 go_wp2_with fail
 clear a2 a3
 go_loopw [7,8,9] (λv i _ wr=>∃ (j f:Nat) (acc:List UInt8),i=.int .i64 j/\a<j/\j<=s.size/\s.size<=j+f/\acc.length<=j/\goS s a f j acc=RV/\wr.ownsRow w.heap.size 5 1 v acc.length (bytesV acc)/\Nx0 w wr) (λ_ i _ _=>s.size-(intOf i).toNat)
 case atStart=>exact⟨a+1,F,[],rfl,Nat.lt_succ_self a,HA.out,HF.out,Nat.zero_le _,HR0.out,HO.out,HN.out⟩
 case round=>
  obtain⟨j,f,acc,rfl,h1,h2,h3,h4,hgo,hown,hN⟩:=hrel
  clear HO HN HR0
  have c0:(0:Int)<=(j:Int):=z4z j
  by_cases c:j<s.size
  ·have c1:(j:Int)<(s.size:Int):=z1z.2 c
   have f0:0<f:=by omega
   by_cases q:s[j].toNat=34
   ·have HR:=hid ((goS_stop s a f j acc h1 f0 c q).symm.trans hgo)
    have q1:((s[j].toNat:Int)==34)=true:=eqI_true q
    have kc:=conv_own _ hown
    obtain⟨w1,w2⟩:=wrap_in HS.out (z3z h2) (rfl:j+1=j+1)
    obtain⟨k0,k1,k2,k3,k4,k5,k6⟩:=hN.cells
    have z4:=row_thawX hN.h4
    have z6:=row_thawX hN.h6
    have HN2:=hid hN
    clear hgo hown hN h1 h2 h3 h4 q f0
    go_wp2_with fail
    refine bodyPost_ret (nx_ret rfl _ _ w.heap.size (w.heap.size+1) _ _ _ _ _ _ _ _ (0,0) (0,0) rfl rfl rfl (HN2.out.fin _ _ _ _ _ _ _).1 (HN2.out.fin _ _ _ _ _ _ _).2.1) rfl ?_
    exact⟨by rw[<- HR.out];rfl,(HN2.out.fin _ _ _ _ _ _ _).2.2⟩
   ·by_cases u:s[j].toNat<32\/126<s[j].toNat
    ·have HR:=hid ((goS_bad s a f j acc h1 f0 c q (sp_none s j c u)).symm.trans hgo)
     have q1:((s[j].toNat:Int)==34)=false:=eqI_false q
     clear hgo hown h1 h2 h3 h4 f0 q
     rcases u with u|u
     ·have u1:(s[j].toNat:Int)<32:=by omega
      clear u
      go_wp2_with (go_at_call 30;(with_reducible refine(cf _).mono ?_);rintro e W2 ⟨rfl,hb⟩;(replace hN:=hN.go hb);clear hb;(have k0:W2.cell? ⟨w.heap.size,0,none⟩=some (.int .i64 0):=row_cellsX hN.h4 0);(have k1:W2.cell? ⟨w.heap.size,1,none⟩=some (.int .i64 0):=row_cellsX hN.h4 1);(have k2:W2.cell? ⟨w.heap.size,2,none⟩=some (.string ⟨#[]⟩):=row_cellsX hN.h4 2);(have k3:W2.cell? ⟨w.heap.size,3,none⟩=some (.int .i64 0):=row_cellsX hN.h4 3);(have k4:W2.cell? ⟨w.heap.size,4,none⟩=some (.int .u64 0):=row_cellsX hN.h4 4);(have k5:W2.cell? ⟨w.heap.size+1,0,none⟩=some (.int .i64 0):=row_cellsX hN.h6 0);(have k6:W2.cell? ⟨w.heap.size+1,1,none⟩=some (.int .i64 0):=row_cellsX hN.h6 1);(have z4:=row_thawX hN.h4);(have z6:=row_thawX hN.h6);(have HN2:=hid hN);clear hN)
      refine bodyPost_ret (nx_ret rfl _ _ w.heap.size (w.heap.size+1) _ _ _ _ _ _ _ _ (0,0) (0,0) rfl rfl rfl (HN2.out.fin _ _ _ _ _ _ _).1 (HN2.out.fin _ _ _ _ _ _ _).2.1) rfl ?_
      exact⟨by rw[<- HR.out];rfl,(HN2.out.fin _ _ _ _ _ _ _).2.2⟩
     ·have u1:¬ (s[j].toNat:Int)<32:=by omega
      have u2:(s[j].toNat:Int)>126:=by omega
      clear u
      go_wp2_with (go_at_call 30;(with_reducible refine(cf _).mono ?_);rintro e W2 ⟨rfl,hb⟩;(replace hN:=hN.go hb);clear hb;(have k0:W2.cell? ⟨w.heap.size,0,none⟩=some (.int .i64 0):=row_cellsX hN.h4 0);(have k1:W2.cell? ⟨w.heap.size,1,none⟩=some (.int .i64 0):=row_cellsX hN.h4 1);(have k2:W2.cell? ⟨w.heap.size,2,none⟩=some (.string ⟨#[]⟩):=row_cellsX hN.h4 2);(have k3:W2.cell? ⟨w.heap.size,3,none⟩=some (.int .i64 0):=row_cellsX hN.h4 3);(have k4:W2.cell? ⟨w.heap.size,4,none⟩=some (.int .u64 0):=row_cellsX hN.h4 4);(have k5:W2.cell? ⟨w.heap.size+1,0,none⟩=some (.int .i64 0):=row_cellsX hN.h6 0);(have k6:W2.cell? ⟨w.heap.size+1,1,none⟩=some (.int .i64 0):=row_cellsX hN.h6 1);(have z4:=row_thawX hN.h4);(have z6:=row_thawX hN.h6);(have HN2:=hid hN);clear hN)
      refine bodyPost_ret (nx_ret rfl _ _ w.heap.size (w.heap.size+1) _ _ _ _ _ _ _ _ (0,0) (0,0) rfl rfl rfl (HN2.out.fin _ _ _ _ _ _ _).1 (HN2.out.fin _ _ _ _ _ _ _).2.1) rfl ?_
      exact⟨by rw[<- HR.out];rfl,(HN2.out.fin _ _ _ _ _ _ _).2.2⟩
    ·have u1:¬ (s[j].toNat:Int)<32:=by omega
     have u2:¬ (s[j].toNat:Int)>126:=by omega
     have v1:¬s[j].toNat<32:=by omega
     have v2:¬126<s[j].toNat:=by omega
     clear u
     have q1:((s[j].toNat:Int)==34)=false:=eqI_false q
     obtain⟨J1,hJ1⟩:∃J1,j+1=J1:=⟨_,rfl⟩
     have HW1:=hid (wrap_in HS.out (z3z h2) hJ1)
     by_cases b:s[j].toNat=92
     ·have b1:((s[j].toNat:Int)!=92)=false:=by rw[b];rfl
      obtain⟨J2,hJ2⟩:∃J2,j+2=J2:=⟨_,rfl⟩
      obtain⟨J3,hJ3⟩:∃J3,j+3=J3:=⟨_,rfl⟩
      have HX1:=hid (wrap_in HS.out (steps hJ1 hJ2 hJ3 h2).1 (steps hJ1 hJ2 hJ3 h2).2.1)
      have HY1:=hid (wrap_two HS.out (steps hJ1 hJ2 hJ3 h2).1 (steps hJ1 hJ2 hJ3 h2).2.2)
      have d0:(0:Int)<=(J1:Int):=z4z J1
      by_cases d:J1<s.size
      ·have d1:(J1:Int)<(s.size:Int):=z1z.2 d
       have d2:¬J1=s.size:=by omega
       by_cases g1:s[J1].toNat=92\/s[J1].toNat=34
       ·obtain⟨f',rfl⟩:∃f',f=f'+1:=pred_ok f0
        have nk:=next_ok h1 h3 h4 hJ2 (by decide) (two_le hJ1 hJ2 d)
        have HM:=hid nk.2.2.2
        have eJ:=hJ2
        have HX:=hid (show a<J2/\J2<=s.size/\s.size<=J2+f'/\(acc++[s[J1]]).length<=J2/\goS s a f' J2 (acc++[s[J1]])=RV from⟨nk.1,(two_le hJ1 hJ2 d),nk.2.1,by rw[z5z,z16z];exact nk.2.2.1,by rw[<- eJ];exact(goS_on s a f' j 2 s[J1] acc h1 c q (by decide) (sp_self s j J1 J2 J3 hJ1 hJ2 hJ3 c b d g1)).symm.trans hgo⟩)
        have HL:=hid (len_ok h4 h2 HS.out)
        have HO:=hid hown
        have HN:=hid hN
        have g1':((s[J1].toNat:Int)==92)=true\/(((s[J1].toNat:Int)==92)=false/\((s[J1].toNat:Int)==34)=true):=by
         by_cases g:s[J1].toNat=92
         ·exact .inl (eqI_true g)
         ·exact .inr ⟨eqI_false g,eqI_true (g1.resolve_left g)⟩
        clear hgo hown hN h1 h2 h3 h4 f0 q v1 v2 b g1 eJ nk hJ1 hJ2 hJ3
        obtain⟨w1,w2⟩:=HW1.out
        obtain⟨x1,x2⟩:=HX1.out
        clear HW1 HX1 HY1
        rcases g1' with g1'|⟨g1',g2'⟩
        ·skip
         go_wp2_with ((at_builtin;refine wpList_append_own _ rfl _ _ 36 rfl w.heap.size 5 i0 (.int .u8 0) 1 1 underlying36 hi hz0 hz1 hz2 rfl (by decide) _ _ _ rfl (HO.out.alloc _) ⟨_,0,none⟩ 1 1 [.int .u8 s[J1].toNat] rfl rfl ?ea1 ?ea2 ?ea3 ?ea4 ?ea5 ?_))
         case ea2=>first|(intro u hu;simp at hu;subst hu;rfl)|rfl|(simp;done)
         case ea3=>have:=HL.out;first|omega|(unfold maxLen;omega)
         case ea4=>have:=HL.out;omega
         case ea5=>have:=HN.out.bel.size;first|omega|(simp;omega)
         ·intro v' w1 hown' hgrow _
          have R1:=hid (bytesV_snoc acc s[J1] s[J1].toNat rfl)
          have RN:=hid ((HN.out.go ((z13z _ _).alloc (z2z _) (.cells #[.int .u8 s[J1].toNat] 5))).grown (HO.out.alloc _) hgrow (λk e=>(HO.out.lt k e).1))
          clear hgrow HO HN
          go_wp2
          go_roundw
          case rel=>exact⟨J2,f',acc++[s[J1]],by first|rfl|go_num,HX.out.1,HX.out.2.1,HX.out.2.2.1,HX.out.2.2.2.1,HX.out.2.2.2.2,by have:=R1.out;rw[this,z5z];exact hown',RN.out⟩
          case measure=>exact meas_to HM.out HX.out.2.1
        ·skip
         go_wp2_with ((at_builtin;refine wpList_append_own _ rfl _ _ 36 rfl w.heap.size 5 i0 (.int .u8 0) 1 1 underlying36 hi hz0 hz1 hz2 rfl (by decide) _ _ _ rfl (HO.out.alloc _) ⟨_,0,none⟩ 1 1 [.int .u8 s[J1].toNat] rfl rfl ?eb1 ?eb2 ?eb3 ?eb4 ?eb5 ?_))
         case eb2=>first|(intro u hu;simp at hu;subst hu;rfl)|rfl|(simp;done)
         case eb3=>have:=HL.out;first|omega|(unfold maxLen;omega)
         case eb4=>have:=HL.out;omega
         case eb5=>have:=HN.out.bel.size;first|omega|(simp;omega)
         ·intro v' w1 hown' hgrow _
          have R1:=hid (bytesV_snoc acc s[J1] s[J1].toNat rfl)
          have RN:=hid ((HN.out.go ((z13z _ _).alloc (z2z _) (.cells #[.int .u8 s[J1].toNat] 5))).grown (HO.out.alloc _) hgrow (λk e=>(HO.out.lt k e).1))
          clear hgrow HO HN
          go_wp2
          go_roundw
          case rel=>exact⟨J2,f',acc++[s[J1]],by first|rfl|go_num,HX.out.1,HX.out.2.1,HX.out.2.2.1,HX.out.2.2.2.1,HX.out.2.2.2.2,by have:=R1.out;rw[this,z5z];exact hown',RN.out⟩
          case measure=>exact meas_to HM.out HX.out.2.1
       ·by_cases g2:s[J1].toNat=110
        ·obtain⟨f',rfl⟩:∃f',f=f'+1:=pred_ok f0
         have nk:=next_ok h1 h3 h4 hJ2 (by decide) (two_le hJ1 hJ2 d)
         have HM:=hid nk.2.2.2
         have eJ:=hJ2
         have HX:=hid (show a<J2/\J2<=s.size/\s.size<=J2+f'/\(acc++[10]).length<=J2/\goS s a f' J2 (acc++[10])=RV from⟨nk.1,(two_le hJ1 hJ2 d),nk.2.1,by rw[z5z,z16z];exact nk.2.2.1,by rw[<- eJ];exact(goS_on s a f' j 2 10 acc h1 c q (by decide) (sp_line s j J1 J2 J3 hJ1 hJ2 hJ3 c b d g2)).symm.trans hgo⟩)
         have HL:=hid (len_ok h4 h2 HS.out)
         have HO:=hid hown
         have HN:=hid hN
         have g3:((s[J1].toNat:Int)==92)=false:=eqI_false (λq=>g1 (.inl q))
         have g4:((s[J1].toNat:Int)==34)=false:=eqI_false (λq=>g1 (.inr q))
         have g5:((s[J1].toNat:Int)==110)=true:=eqI_true g2
         clear hgo hown hN h1 h2 h3 h4 f0 q v1 v2 b g1 g2 eJ nk hJ1 hJ2 hJ3
         obtain⟨w1,w2⟩:=HW1.out
         obtain⟨x1,x2⟩:=HX1.out
         clear HW1 HX1 HY1
         go_wp2_with ((at_builtin;refine wpList_append_own _ rfl _ _ 36 rfl w.heap.size 5 i0 (.int .u8 0) 1 1 underlying36 hi hz0 hz1 hz2 rfl (by decide) _ _ _ rfl (HO.out.alloc _) ⟨_,0,none⟩ 1 1 [Value.int .u8 (10:Int)] (by rfl) (by rfl) ?ec1 ?ec2 ?ec3 ?ec4 ?ec5 ?_))
         case ec2=>first|(intro u hu;simp at hu;subst hu;rfl)|rfl|(simp;done)
         case ec3=>have:=HL.out;first|omega|(unfold maxLen;omega)
         case ec4=>have:=HL.out;omega
         case ec5=>have:=HN.out.bel.size;first|omega|(simp;omega)
         ·intro v' w1 hown' hgrow _
          have R1:=hid (bytesV_snoc acc 10 10 rfl)
          have RN:=hid ((HN.out.go ((z13z _ _).alloc (z2z _) (.cells #[.int .u8 10] 5))).grown (HO.out.alloc _) hgrow (λk e=>(HO.out.lt k e).1))
          clear hgrow HO HN
          go_wp2
          go_roundw
          case rel=>exact⟨J2,f',acc++[10],by first|rfl|go_num,HX.out.1,HX.out.2.1,HX.out.2.2.1,HX.out.2.2.2.1,HX.out.2.2.2.2,by have:=R1.out;rw[this,z5z];exact hown',RN.out⟩
          case measure=>exact meas_to HM.out HX.out.2.1
        ·have g3:((s[J1].toNat:Int)==92)=false:=eqI_false (λq=>g1 (.inl q))
         have g4:((s[J1].toNat:Int)==34)=false:=eqI_false (λq=>g1 (.inr q))
         have g5:((s[J1].toNat:Int)==110)=false:=eqI_false g2
         by_cases g6:s[J1].toNat=120
         ·have g7:((s[J1].toNat:Int)==120)=true:=eqI_true g6
          by_cases d3:J3<s.size
          ·have e3:(J3:Int)<(s.size:Int):=z1z.2 d3
           have d2':J2<s.size:=three_lt hJ2 hJ3 d3
           have e2:(J2:Int)<(s.size:Int):=z1z.2 d2'
           have n2:(0:Int)<=(J2:Int):=z4z J2
           have n3:(0:Int)<=(J3:Int):=z4z J3
           have chk2:=rHex_c s[J2]
           have chk3:=rHex_c s[J3]
           obtain⟨hx1,hx2⟩:=sp_hex s j J1 J2 J3 hJ1 hJ2 hJ3 c b d g6 d2' d3
           by_cases p2:0<=hexV s[J2]
           ·by_cases p3:0<=hexV s[J3]
            ·obtain⟨f',rfl⟩:∃f',f=f'+1:=pred_ok f0
             obtain⟨J4,hJ4⟩:∃J4,j+4=J4:=⟨_,rfl⟩
             obtain⟨cc,hcc,hsp⟩:=hx1 p2 p3
             have nk:=next_ok h1 h3 h4 hJ4 (by decide) (four_le hJ3 hJ4 d3)
             have HM:=hid nk.2.2.2
             have eJ:=hJ4
             have HX:=hid (show a<J4/\J4<=s.size/\s.size<=J4+f'/\(acc++[cc]).length<=J4/\goS s a f' J4 (acc++[cc])=RV from⟨nk.1,(four_le hJ3 hJ4 d3),nk.2.1,by rw[z5z,z16z];exact nk.2.2.1,by rw[<- eJ];exact(goS_on s a f' j 4 cc acc h1 c q (by decide) hsp).symm.trans hgo⟩)
             have HL:=hid (len_ok h4 h2 HS.out)
             have HO:=hid hown
             have HN:=hid hN
             have HZ1:=hid (wrap_in HS.out (three_up hJ3 d3) (three_four hJ3 hJ4))
             have HH:=hid (hex_sum s[J2] s[J3] cc p2 p3 hcc)
             clear hx1 hx2 hcc hsp
             clear hgo hown hN h1 h2 h3 h4 f0 q v1 v2 b g1 g2 eJ nk hJ1 hJ2 hJ3 hJ4 g6
             generalize hexV s[J2]=v2x at *
             generalize hexV s[J3]=v3x at *
             obtain⟨w1,w2⟩:=HW1.out
             obtain⟨x1,x2⟩:=HX1.out
             clear HW1 HX1
             have HQ:=hid (z0z chk2 (z0z chk3 (z0z e2 (z0z e3 (z0z n2 (z0z n3 (z0z p2 p3)))))))
             have G7:=hid g7
             clear chk2 chk3 e2 e3 n2 n3 p2 p3 g7
             go_upto_region 17 with fail
             obtain⟨chk2,chk3,e2,e3,n2,n3,p2,p3⟩:=HQ.out
             obtain⟨y1,y2⟩:=HY1.out
             have g7:=G7.out
             have p2':v2x≥0:=p2
             have p3':v3x≥0:=p3
             clear HQ HY1 G7
             go_upto_region 18 with((with_reducible (apply Calls.mono;first|exact chk2 _|exact chk3 _));rintro e w' ⟨rfl,hw⟩;(have hw':=hw.symm);subst hw';clear hw)
             obtain⟨v',W6,hrun,hown',hgrow,_⟩:=run_append_own (P:=prog) (w:=(wr.alloc (.cells #[.int .u8 cc.toNat] 5)).drew) w.heap.size 36 36 5 i0 (.int .u8 0) 1 1 underlying36 hi hz0 hz1 hz2 rfl (by decide) _ _ _ (HO.out.alloc (.cells #[.int .u8 cc.toNat] 5)).drew ⟨wr.heap.size,0,none⟩ 1 1 [.int .u8 cc.toNat] rfl (by intro j u hj;match j,hj with|0,hj=>simp at hj;subst hj;exact World.cell?_alloc_new wr #[Value.int .u8 cc.toNat] 5 0) (by intro u hu;simp at hu;subst hu;rfl) (by have:=HL.out;unfold maxLen;omega) (by have:=HL.out;omega) (by have:=HN.out.bel.size;simp;omega)
             obtain⟨h5a,h5b,h5c,h5d,h5e,h5f⟩:=HH.out
             have hS:True:=trivial
             (refine wp_region_held_drew (S:=λ_=>True) (by kernel_rfl) trivial ?_);intro hS2
             iterate 5 ((refine It.nH 0 ?_ rfl (by kernel_rfl) (λ_ _ _ h=>h) (Or.inl ⟨by rfl,?_⟩) trivial ?_);rotate_left;focus (intro w' hSw;go_simp;(try with_reducible rfl));(try simp only[Act.put,zx1,zx2,zx3,zx4,zx5,zx6]))
             iterate 4 ((refine It.nH 7 ?_ rfl (by kernel_rfl) (λ_ _ _ h=>h) (Or.inl ⟨by rfl,?_⟩) trivial ?_);rotate_left;focus (intro w' hSw;go_simp;(try with_reducible rfl));(try simp only[Act.put,zx1,zx2,zx3,zx4,zx5,zx6]))
             (refine wpAnyH_ready (rs:=[5]) (by kernel_rfl) (by simp) ?_);(refine z17z rfl (λK hK=>?_) z18z);go_simp;(refine(chk2 _).mono ?_);rintro e w' ⟨rfl,hw⟩;(have hw':=hw.symm);subst hw';clear hw;(refine hK.out _ _ trivial (λhS=>?_));clear hK K;(try simp only[Act.put,zx1,zx2,zx3,zx4,zx5,zx6])
             (refine It.nH 6 ?_ rfl (by kernel_rfl) (λ_ _ _ h=>h) (Or.inl ⟨by rfl,?_⟩) trivial ?_);rotate_left;focus (intro w' hSw;go_simp;(try with_reducible rfl));(try simp only[Act.put,zx1,zx2,zx3,zx4,zx5,zx6])
             (refine wpAnyH_ready (rs:=[11]) (by kernel_rfl) (by simp) ?_);(refine z17z rfl (λK hK=>?_) z18z);go_simp;(refine(chk3 _).mono ?_);rintro e w' ⟨rfl,hw⟩;(have hw':=hw.symm);subst hw';clear hw;(refine hK.out _ _ trivial (λhS=>?_));clear hK K;(try simp only[Act.put,zx1,zx2,zx3,zx4,zx5,zx6])
             iterate 2 ((refine It.nH 12 ?_ rfl (by kernel_rfl) (λ_ _ _ h=>h) (Or.inl ⟨by rfl,?_⟩) trivial ?_);rotate_left;focus (intro w' hSw;go_simp;(try with_reducible rfl));(try simp only[Act.put,zx1,zx2,zx3,zx4,zx5,zx6]))
             (refine wpAnyH_ready (rs:=[14]) (by kernel_rfl) (by simp) ?_);(refine z17z rfl (λK hK=>?_) z18z);go_simp;(refine hK.out _ _ trivial (λhS=>?_));clear hK K;(try simp only[Act.put,zx1,zx2,zx3,zx4,zx5,zx6])
             (refine wpAnyH_ready (rs:=[15]) (by kernel_rfl) (by simp) ?_);(refine z17z rfl (λK hK=>?_) z18z)
             rw[if_pos (by rfl)]
             refine Lib.wp_append_run _ (.tmp 99) (.tmp 113) 36 36 rfl _ _ rfl rfl _ _ hrun ?_
             refine hK.out _ _ trivial (λhS=>?_)
             clear hK K hrun
             (try simp only[Act.put,zx1,zx2,zx3,zx4,zx5,zx6])
             (refine It.nH 16 ?_ rfl (by kernel_rfl) (λ_ _ _ h=>h) (Or.inl ⟨by rfl,?_⟩) trivial ?_);rotate_left;focus (intro w' hSw;go_simp;(try with_reducible rfl));(try simp only[Act.put,zx1,zx2,zx3,zx4,zx5,zx6])
             refine wpAnyH_done (by kernel_rfl) ?_ _
             have R1:=hid (bytesV_snoc acc cc cc.toNat rfl)
             have RN:=hid ((HN.out.go (((z13z _ wr).alloc (z2z _) (.cells #[.int .u8 cc.toNat] 5)).drew)).grown (HO.out.alloc _).drew hgrow (λk e=>(HO.out.lt k e).1))
             obtain⟨t1,t2⟩:=HZ1.out
             clear hgrow HO HN h5a h5b h5c h5d h5e h5f HH chk2 chk3
             go_wp2
             go_roundw
             case rel=>exact⟨J4,f',acc++[cc],by first|rfl|go_num,HX.out.1,HX.out.2.1,HX.out.2.2.1,HX.out.2.2.2.1,HX.out.2.2.2.2,by have:=R1.out;rw[this,z5z];exact hown',RN.out⟩
             case measure=>exact meas_to HM.out HX.out.2.1
            ·have HR:=hid ((goS_bad s a f j acc h1 f0 c q (hx2 (.inr p3))).symm.trans hgo)
             clear hx1 hx2
             clear hgo hown h1 h2 h3 h4 f0 q v1 v2 b g1 g2 hJ1 hJ2 hJ3
             generalize hexV s[J2]=v2x at *
             generalize hexV s[J3]=v3x at *
             obtain⟨w1,w2⟩:=HW1.out
             obtain⟨x1,x2⟩:=HX1.out
             have HQ:=hid (z0z chk2 (z0z chk3 (z0z e2 (z0z e3 (z0z n2 (z0z n3 (z0z p2 (z0z p3 g7))))))))
             clear HW1 HX1 chk2 chk3 e2 e3 n2 n3 p2 p3 g7 g6
             go_upto_region 17 with fail
             obtain⟨chk2,chk3,e2,e3,n2,n3,p2,p3,g7⟩:=HQ.out
             obtain⟨y1,y2⟩:=HY1.out
             have p2':v2x≥0:=p2
             have p3':¬v3x≥0:=p3
             clear HQ HY1
             go_wp2_with (first|(go_at_call 30;(with_reducible refine(cf _).mono ?_);rintro e W2 ⟨rfl,hb⟩;(replace hN:=hN.go hb);clear hb;(have k0:W2.cell? ⟨w.heap.size,0,none⟩=some (.int .i64 0):=row_cellsX hN.h4 0);(have k1:W2.cell? ⟨w.heap.size,1,none⟩=some (.int .i64 0):=row_cellsX hN.h4 1);(have k2:W2.cell? ⟨w.heap.size,2,none⟩=some (.string ⟨#[]⟩):=row_cellsX hN.h4 2);(have k3:W2.cell? ⟨w.heap.size,3,none⟩=some (.int .i64 0):=row_cellsX hN.h4 3);(have k4:W2.cell? ⟨w.heap.size,4,none⟩=some (.int .u64 0):=row_cellsX hN.h4 4);(have k5:W2.cell? ⟨w.heap.size+1,0,none⟩=some (.int .i64 0):=row_cellsX hN.h6 0);(have k6:W2.cell? ⟨w.heap.size+1,1,none⟩=some (.int .i64 0):=row_cellsX hN.h6 1);(have z4:=row_thawX hN.h4);(have z6:=row_thawX hN.h6);(have HN2:=hid hN);clear hN)|((with_reducible (apply Calls.mono;first|exact chk2 _|exact chk3 _));rintro e w' ⟨rfl,rfl⟩))
             refine bodyPost_ret (nx_ret rfl _ _ w.heap.size (w.heap.size+1) _ _ _ _ _ _ _ _ (0,0) (0,0) rfl rfl rfl (HN2.out.fin _ _ _ _ _ _ _).1 (HN2.out.fin _ _ _ _ _ _ _).2.1) rfl ?_
             exact⟨by rw[<- HR.out];rfl,(HN2.out.fin _ _ _ _ _ _ _).2.2⟩
           ·have HR:=hid ((goS_bad s a f j acc h1 f0 c q (hx2 (.inl p2))).symm.trans hgo)
            clear hx1 hx2 chk3
            clear hgo hown h1 h2 h3 h4 f0 q v1 v2 b g1 g2 hJ1 hJ2 hJ3
            generalize hexV s[J2]=v2x at *
            obtain⟨w1,w2⟩:=HW1.out
            obtain⟨x1,x2⟩:=HX1.out
            have HQ:=hid (z0z chk2 (z0z e2 (z0z e3 (z0z n2 (z0z n3 (z0z p2 g7))))))
            clear HW1 HX1 chk2 e2 e3 n2 n3 p2 g7 g6
            go_upto_region 17 with fail
            obtain⟨chk2,e2,e3,n2,n3,p2,g7⟩:=HQ.out
            obtain⟨y1,y2⟩:=HY1.out
            have p2':¬v2x≥0:=p2
            clear HQ HY1
            go_wp2_with (first|(go_at_call 30;(with_reducible refine(cf _).mono ?_);rintro e W2 ⟨rfl,hb⟩;(replace hN:=hN.go hb);clear hb;(have k0:W2.cell? ⟨w.heap.size,0,none⟩=some (.int .i64 0):=row_cellsX hN.h4 0);(have k1:W2.cell? ⟨w.heap.size,1,none⟩=some (.int .i64 0):=row_cellsX hN.h4 1);(have k2:W2.cell? ⟨w.heap.size,2,none⟩=some (.string ⟨#[]⟩):=row_cellsX hN.h4 2);(have k3:W2.cell? ⟨w.heap.size,3,none⟩=some (.int .i64 0):=row_cellsX hN.h4 3);(have k4:W2.cell? ⟨w.heap.size,4,none⟩=some (.int .u64 0):=row_cellsX hN.h4 4);(have k5:W2.cell? ⟨w.heap.size+1,0,none⟩=some (.int .i64 0):=row_cellsX hN.h6 0);(have k6:W2.cell? ⟨w.heap.size+1,1,none⟩=some (.int .i64 0):=row_cellsX hN.h6 1);(have z4:=row_thawX hN.h4);(have z6:=row_thawX hN.h6);(have HN2:=hid hN);clear hN)|(go_at_call 49;(with_reducible refine(chk2 _).mono ?_);rintro e w' ⟨rfl,rfl⟩))
            refine bodyPost_ret (nx_ret rfl _ _ w.heap.size (w.heap.size+1) _ _ _ _ _ _ _ _ (0,0) (0,0) rfl rfl rfl (HN2.out.fin _ _ _ _ _ _ _).1 (HN2.out.fin _ _ _ _ _ _ _).2.1) rfl ?_
            exact⟨by rw[<- HR.out];rfl,(HN2.out.fin _ _ _ _ _ _ _).2.2⟩
          ·have e3:¬ (J3:Int)<(s.size:Int):=λq=>d3 (z1z.1 q)
           have HR:=hid ((goS_bad s a f j acc h1 f0 c q (sp_short s j J1 J2 J3 hJ1 hJ2 hJ3 c b d g6 d3)).symm.trans hgo)
           clear hgo hown h1 h2 h3 h4 f0 q v1 v2 b g1 g2 hJ1 hJ2 hJ3
           clear g6 d3
           obtain⟨w1,w2⟩:=HW1.out
           obtain⟨x1,x2⟩:=HX1.out
           have HQ:=hid (z0z e3 g7)
           clear HW1 HX1 e3 g7
           go_upto_region 17 with fail
           obtain⟨e3,g7⟩:=HQ.out
           obtain⟨y1,y2⟩:=HY1.out
           clear HQ HY1
           go_wp2_with (go_at_call 30;(with_reducible refine(cf _).mono ?_);rintro e W2 ⟨rfl,hb⟩;(replace hN:=hN.go hb);clear hb;(have k0:W2.cell? ⟨w.heap.size,0,none⟩=some (.int .i64 0):=row_cellsX hN.h4 0);(have k1:W2.cell? ⟨w.heap.size,1,none⟩=some (.int .i64 0):=row_cellsX hN.h4 1);(have k2:W2.cell? ⟨w.heap.size,2,none⟩=some (.string ⟨#[]⟩):=row_cellsX hN.h4 2);(have k3:W2.cell? ⟨w.heap.size,3,none⟩=some (.int .i64 0):=row_cellsX hN.h4 3);(have k4:W2.cell? ⟨w.heap.size,4,none⟩=some (.int .u64 0):=row_cellsX hN.h4 4);(have k5:W2.cell? ⟨w.heap.size+1,0,none⟩=some (.int .i64 0):=row_cellsX hN.h6 0);(have k6:W2.cell? ⟨w.heap.size+1,1,none⟩=some (.int .i64 0):=row_cellsX hN.h6 1);(have z4:=row_thawX hN.h4);(have z6:=row_thawX hN.h6);(have HN2:=hid hN);clear hN)
           refine bodyPost_ret (nx_ret rfl _ _ w.heap.size (w.heap.size+1) _ _ _ _ _ _ _ _ (0,0) (0,0) rfl rfl rfl (HN2.out.fin _ _ _ _ _ _ _).1 (HN2.out.fin _ _ _ _ _ _ _).2.1) rfl ?_
           exact⟨by rw[<- HR.out];rfl,(HN2.out.fin _ _ _ _ _ _ _).2.2⟩
         ·have g7:((s[J1].toNat:Int)==120)=false:=eqI_false g6
          have HR:=hid ((goS_bad s a f j acc h1 f0 c q (sp_other s j J1 J2 J3 hJ1 hJ2 hJ3 c b d (λq=>g1 (.inl q)) (λq=>g1 (.inr q)) g2 g6)).symm.trans hgo)
          clear hgo hown h1 h2 h3 h4 f0 q v1 v2 b g1 g2 hJ1 hJ2 hJ3
          clear g6
          obtain⟨w1,w2⟩:=HW1.out
          obtain⟨x1,x2⟩:=HX1.out
          clear HW1 HX1 HY1
          go_wp2_with (go_at_call 30;(with_reducible refine(cf _).mono ?_);rintro e W2 ⟨rfl,hb⟩;(replace hN:=hN.go hb);clear hb;(have k0:W2.cell? ⟨w.heap.size,0,none⟩=some (.int .i64 0):=row_cellsX hN.h4 0);(have k1:W2.cell? ⟨w.heap.size,1,none⟩=some (.int .i64 0):=row_cellsX hN.h4 1);(have k2:W2.cell? ⟨w.heap.size,2,none⟩=some (.string ⟨#[]⟩):=row_cellsX hN.h4 2);(have k3:W2.cell? ⟨w.heap.size,3,none⟩=some (.int .i64 0):=row_cellsX hN.h4 3);(have k4:W2.cell? ⟨w.heap.size,4,none⟩=some (.int .u64 0):=row_cellsX hN.h4 4);(have k5:W2.cell? ⟨w.heap.size+1,0,none⟩=some (.int .i64 0):=row_cellsX hN.h6 0);(have k6:W2.cell? ⟨w.heap.size+1,1,none⟩=some (.int .i64 0):=row_cellsX hN.h6 1);(have z4:=row_thawX hN.h4);(have z6:=row_thawX hN.h6);(have HN2:=hid hN);clear hN)
          refine bodyPost_ret (nx_ret rfl _ _ w.heap.size (w.heap.size+1) _ _ _ _ _ _ _ _ (0,0) (0,0) rfl rfl rfl (HN2.out.fin _ _ _ _ _ _ _).1 (HN2.out.fin _ _ _ _ _ _ _).2.1) rfl ?_
          exact⟨by rw[<- HR.out];rfl,(HN2.out.fin _ _ _ _ _ _ _).2.2⟩
      ·have d2:J1=s.size:=by omega
       have HR:=hid ((goS_bad s a f j acc h1 f0 c q (sp_last s j J1 hJ1 c b d)).symm.trans hgo)
       clear hgo hown h1 h2 h3 h4 f0 q v1 v2 b hJ1 hJ2 hJ3
       obtain⟨w1,w2⟩:=HW1.out
       clear HW1 HX1 HY1
       have d3:(J1:Int)=(s.size:Int):=by rw[d2]
       clear d d2
       go_wp2_with (go_at_call 30;(with_reducible refine(cf _).mono ?_);rintro e W2 ⟨rfl,hb⟩;(replace hN:=hN.go hb);clear hb;(have k0:W2.cell? ⟨w.heap.size,0,none⟩=some (.int .i64 0):=row_cellsX hN.h4 0);(have k1:W2.cell? ⟨w.heap.size,1,none⟩=some (.int .i64 0):=row_cellsX hN.h4 1);(have k2:W2.cell? ⟨w.heap.size,2,none⟩=some (.string ⟨#[]⟩):=row_cellsX hN.h4 2);(have k3:W2.cell? ⟨w.heap.size,3,none⟩=some (.int .i64 0):=row_cellsX hN.h4 3);(have k4:W2.cell? ⟨w.heap.size,4,none⟩=some (.int .u64 0):=row_cellsX hN.h4 4);(have k5:W2.cell? ⟨w.heap.size+1,0,none⟩=some (.int .i64 0):=row_cellsX hN.h6 0);(have k6:W2.cell? ⟨w.heap.size+1,1,none⟩=some (.int .i64 0):=row_cellsX hN.h6 1);(have z4:=row_thawX hN.h4);(have z6:=row_thawX hN.h6);(have HN2:=hid hN);clear hN)
       refine bodyPost_ret (nx_ret rfl _ _ w.heap.size (w.heap.size+1) _ _ _ _ _ _ _ _ (0,0) (0,0) rfl rfl rfl (HN2.out.fin _ _ _ _ _ _ _).1 (HN2.out.fin _ _ _ _ _ _ _).2.1) rfl ?_
       exact⟨by rw[<- HR.out];rfl,(HN2.out.fin _ _ _ _ _ _ _).2.2⟩
     ·have b1:((s[j].toNat:Int)!=92)=true:=by have:=eqI_false b;simp only[bne];rw[show ((s[j].toNat:Int)==92)=false from this];rfl
      obtain⟨f',rfl⟩:∃f',f=f'+1:=pred_ok f0
      have nk:=next_ok h1 h3 h4 hJ1 (by decide) (one_le hJ1 c)
      have HM:=hid nk.2.2.2
      have eJ:=hJ1
      have HX:=hid (show a<J1/\J1<=s.size/\s.size<=J1+f'/\(acc++[s[j]]).length<=J1/\goS s a f' J1 (acc++[s[j]])=RV from⟨nk.1,(one_le hJ1 c),nk.2.1,by rw[z5z,z16z];exact nk.2.2.1,by rw[<- eJ];exact(goS_on s a f' j 1 s[j] acc h1 c q (by decide) (sp_one s j c v1 v2 b)).symm.trans hgo⟩)
      have HL:=hid (len_ok h4 h2 HS.out)
      have HO:=hid hown
      have HN:=hid hN
      clear hgo hown hN h1 h2 h3 h4 f0 q v1 v2 b eJ nk hJ1
      obtain⟨w1,w2⟩:=HW1.out
      clear HW1
      go_wp2_with ((at_builtin;refine wpList_append_own _ rfl _ _ 36 rfl w.heap.size 5 i0 (.int .u8 0) 1 1 underlying36 hi hz0 hz1 hz2 rfl (by decide) _ _ _ rfl (HO.out.alloc _) ⟨_,0,none⟩ 1 1 [.int .u8 s[j].toNat] rfl rfl ?ed1 ?ed2 ?ed3 ?ed4 ?ed5 ?_))
      case ed2=>first|(intro u hu;simp at hu;subst hu;rfl)|rfl|(simp;done)
      case ed3=>have:=HL.out;first|omega|(unfold maxLen;omega)
      case ed4=>have:=HL.out;omega
      case ed5=>have:=HN.out.bel.size;first|omega|(simp;omega)
      ·intro v' w1 hown' hgrow _
       have R1:=hid (bytesV_snoc acc s[j] s[j].toNat rfl)
       have RN:=hid ((HN.out.go ((z13z _ _).alloc (z2z _) (.cells #[.int .u8 s[j].toNat] 5))).grown (HO.out.alloc _) hgrow (λk e=>(HO.out.lt k e).1))
       clear hgrow HO HN
       go_wp2
       go_roundw
       case rel=>exact⟨J1,f',acc++[s[j]],by first|rfl|go_num,HX.out.1,HX.out.2.1,HX.out.2.2.1,HX.out.2.2.2.1,HX.out.2.2.2.2,by have:=R1.out;rw[this,z5z];exact hown',RN.out⟩
       case measure=>exact meas_to HM.out HX.out.2.1
  ·have c1:¬ (j:Int)<(s.size:Int):=λq=>c (z1z.1 q)
   have HR:=hid ((goS_end s a f j acc h1 c).symm.trans hgo)
   clear hgo hown h1 h2 h3 h4 c
   go_wp2_with (go_at_call 30;(with_reducible refine(cf _).mono ?_);rintro e W2 ⟨rfl,hb⟩;(replace hN:=hN.go hb);clear hb;(have k0:W2.cell? ⟨w.heap.size,0,none⟩=some (.int .i64 0):=row_cellsX hN.h4 0);(have k1:W2.cell? ⟨w.heap.size,1,none⟩=some (.int .i64 0):=row_cellsX hN.h4 1);(have k2:W2.cell? ⟨w.heap.size,2,none⟩=some (.string ⟨#[]⟩):=row_cellsX hN.h4 2);(have k3:W2.cell? ⟨w.heap.size,3,none⟩=some (.int .i64 0):=row_cellsX hN.h4 3);(have k4:W2.cell? ⟨w.heap.size,4,none⟩=some (.int .u64 0):=row_cellsX hN.h4 4);(have k5:W2.cell? ⟨w.heap.size+1,0,none⟩=some (.int .i64 0):=row_cellsX hN.h6 0);(have k6:W2.cell? ⟨w.heap.size+1,1,none⟩=some (.int .i64 0):=row_cellsX hN.h6 1);(have z4:=row_thawX hN.h4);(have z6:=row_thawX hN.h6);(have HN2:=hid hN);clear hN)
   refine bodyPost_ret (nx_ret rfl _ _ w.heap.size (w.heap.size+1) _ _ _ _ _ _ _ _ (0,0) (0,0) rfl rfl rfl (HN2.out.fin _ _ _ _ _ _ _).1 (HN2.out.fin _ _ _ _ _ _ _).2.1) rfl ?_
   exact⟨by rw[<- HR.out];rfl,(HN2.out.fin _ _ _ _ _ _ _).2.2⟩
theorem rText_c(s:ByteArray)(hs:s.size<=1000000)(a:Nat)(ha:a<s.size)(hq:s[a].toNat=34)(w:World) :
  Calls prog 28 #[.string s,.int .i64 a] w λe w'=>e=.returned (nxR (quotedP (s.data.toList.drop a)) a)/\Below w.heap.size w w':=by
 refine(rText_core s hs a (s.size-a) ha (by omega) _ rfl w).mono ?_
 rintro e w' ⟨rfl,hb⟩
 refine⟨?_,hb⟩
 have e1:quotedP (s.data.toList.drop a)=qd (quoteGo (s.size-a) (s.data.toList.drop (a+1)) 1 []):=by
  unfold quotedP
  rw[if_pos (by rw[drop_cons s a ha,u8_is hq];rfl),z6z,size_list,z15z]
 have e2:nxR (qd (quoteGo (s.size-a) (s.data.toList.drop (a+1)) 1 [])) a=nxR (quoteGo (s.size-a) (s.data.toList.drop (a+1)) 1 []) a:=by
  have hg:=quote_ge (s.size-a) (s.data.toList.drop (a+1)) 1 []
  rcases quote_form (s.size-a) (s.data.toList.drop (a+1)) 1 [] with⟨n,g⟩|⟨t,n,g⟩
  ·rcases qd_cases (quoteGo (s.size-a) (s.data.toList.drop (a+1)) 1 []) with k|⟨_,k⟩
   ·rw[k]
   ·rw[g] at hg
    have hn:n≠0:=by have:(badPc n 61).size=n:=rfl;omega
    rw[k,g,nx_bad 1 61 a (by decide) (by decide),nx_bad n 61 a hn (by decide)]
  ·rw[g,qd_ok rfl]
 unfold goS
 rw[e1,e2,show a+1-a=1 by omega]
theorem rNext_any(s:ByteArray)(hs:s.size<=1000000)(a:Nat)(ha:a<=s.size)(w:World) :
  Calls prog 16 #[.string s,.int .i64 a] w λe w'=>e=.returned (nextR (s.data.toList.drop a) a)/\Below w.heap.size w w':=
 rNext_c s hs a ha (λh hd w=>rNumber_c s hs a h hd w) (λh hq w=>rText_c s hs a h hq w) w
theorem rAll_any(s:ByteArray)(hs:s.size<=65536)(w:World) :
  Calls prog 8 #[.string s] w λe w'=>Below w.heap.size w w'/\AllR (T s.data.toList 0) w.heap.size e w':=by
 refine rAll_core s hs (λa ha w=>rBlank_c s (by omega) a ha w) (λk hk hg w=>?_) w
 obtain⟨t,x,y,c,f,h1,h2⟩:=next_form s.data.toList k (by rw[size_list];exact hk) hg
 refine(rNext_any s (by omega) k hk w).mono ?_
 rintro e w' ⟨rfl,hb⟩
 exact⟨⟨t,x,y,c,f,by rw[h1];rfl,h2⟩,hb⟩
theorem goes_step(l:List UInt8)(k:Nat)(hk:k<=l.length)(h:NoGap (l.drop k))(y:Yd)(rest:List Yd)(hT:T (l.drop k) k=y::rest) :
  ∃to':Int,nextR (l.drop k) k=.tuple #[tv y.t y.a,.int .i64 to',.agg #[.int .i64 y.c,.int .i64 y.f]] /\
   ((y.c≠0/\rest=[])\/(y.c=0/\y.t.kind=7/\rest=[])\/(y.c=0/\y.t.kind≠7/\∃m:Nat,to'=(m:Int)/\m<=l.length/\rest=T (l.drop m) m)):=by
 unfold nextR
 by_cases e:l.drop k=[]
 ·rw[if_pos e]
  rw[e,T_nil] at hT
  simp only[z10z.injEq] at hT
  obtain⟨rfl,rfl⟩:=hT
  exact⟨_,rfl,.inr (.inl ⟨rfl,rfl,rfl⟩)⟩
 ·rw[if_neg e]
  have hp:=piece_rest _ h
  have hst:=T_step (r:=l.drop k) (a:=k) e
  rw[hp,hT] at hst
  have hle:=piece_le (l.drop k)
  rw[hp,z6z] at hle
  unfold nxR
  by_cases c1:(restP (l.drop k)).size=0
  ·rw[if_pos c1]
   rw[if_pos c1] at hst
   simp only[z10z.injEq] at hst
   obtain⟨rfl,rfl⟩:=hst
   exact⟨_,rfl,.inl ⟨(show (60:Int)≠0 by decide),rfl⟩⟩
  ·rw[if_neg c1]
   rw[if_neg c1] at hst
   by_cases c2:(restP (l.drop k)).code=0
   ·rw[if_neg (λh=>h c2)]
    rw[if_neg (λh=>h c2)] at hst
    have k0:(restP (l.drop k)).t.kind≠0:=rest_tok _ c1 c2
    rw[if_pos k0] at hst
    simp only[z10z.injEq] at hst
    obtain⟨rfl,rfl⟩:=hst
    refine⟨_,rfl,.inr (.inr ⟨rfl,rest_no7 _,k+(restP (l.drop k)).size,rfl,by omega,?_⟩)⟩
    rw[z15z]
   ·rw[if_pos c2]
    rw[if_pos c2] at hst
    simp only[z10z.injEq] at hst
    obtain⟨rfl,rfl⟩:=hst
    exact⟨_,rfl,.inl ⟨c2,rfl⟩⟩
theorem T_pos(r:List UInt8)(a:Nat):T r a≠[]:=by
 obtain⟨ts,z,h,_⟩:=T_form _ r a (z2z _)
 rw[h]
 simp
def ansY(L:List Yd):List Yd × Int × Int:=match L.find? (λy=>y.c != 0) with
 | some y=>([],y.c,y.f)
 | none=>(L,0,0)
theorem ans_of{L:List Yd}{B:Nat}{e:Ending}{w':World}(h:AllR L B e w'):∃o cap,e=.returned (.tuple #[.slice o (ansY L).1.length cap,.agg #[.int .i64 (ansY L).2.1,.int .i64 (ansY L).2.2]])/\w'.ownsRow B 30 5 (.slice o (ansY L).1.length cap) (ansY L).1.length (rowsY (ansY L).1):=by
 rcases h with⟨y,h1,rfl⟩|⟨h0,v,rfl,ho⟩
 ·have ea:ansY L=([],y.c,y.f):=by unfold ansY;rw[h1]
  rw[ea]
  exact⟨none,0,rfl,World.ownsRow_nil _ _ _ _⟩
 ·have hn:L.find? (λy=>y.c != 0)=none:=by
   rw[List.find?_eq_none]
   intro y hy
   simp[h0 y hy]
  have ea:ansY L=(L,0,0):=by unfold ansY;rw[hn]
  rw[ea]
  obtain⟨o,cap,rfl⟩:=slice_ofX ho
  exact⟨o,cap,rfl,ho⟩
theorem ans_len(L:List Yd):(ansY L).1.length<=L.length:=by
 unfold ansY
 split <;> simp
theorem lexAll_ans(s:ByteArray)(hs:s.size<=5000)(w:World)(ht:Tabs w)(hm:MarksIn w):Calls prog 9 #[.string s] w λe w'=>Below w.heap.size w w'/\∃o cap,e=.returned (.tuple #[.slice o (ansY (T s.data.toList 0)).1.length cap,.agg #[.int .i64 (ansY (T s.data.toList 0)).2.1,.int .i64 (ansY (T s.data.toList 0)).2.2]])/\w'.ownsRow w.heap.size 30 5 (.slice o (ansY (T s.data.toList 0)).1.length cap) (ansY (T s.data.toList 0)).1.length (rowsY (ansY (T s.data.toList 0)).1):=by
 refine(all_c s (by omega) w ht hm).mono ?_
 rintro e w' ⟨hb,h⟩
 rw[src_T _ (by rw[size_list];omega)] at h
 exact⟨hb,ans_of h⟩
theorem refAll_ans(s:ByteArray)(hs:s.size<=5000)(w:World):Calls prog 8 #[.string s] w λe w'=>Below w.heap.size w w'/\∃o cap,e=.returned (.tuple #[.slice o (ansY (T s.data.toList 0)).1.length cap,.agg #[.int .i64 (ansY (T s.data.toList 0)).2.1,.int .i64 (ansY (T s.data.toList 0)).2.2]])/\w'.ownsRow w.heap.size 30 5 (.slice o (ansY (T s.data.toList 0)).1.length cap) (ansY (T s.data.toList 0)).1.length (rowsY (ansY (T s.data.toList 0)).1):=by
 refine(rAll_any s (by omega) w).mono ?_
 rintro e w' ⟨hb,h⟩
 exact⟨hb,ans_of h⟩
end Go.Proofs.YtknkedihmmbanaaDoor.W

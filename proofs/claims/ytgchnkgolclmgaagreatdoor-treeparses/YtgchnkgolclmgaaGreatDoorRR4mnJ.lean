import Derived.Test.YtgchnkgolclmgaaGreatDoorRA
open List renaming getElem?_eq_getElem → aH, eq_nil_of_length_eq_zero → aL
set_option maxRecDepth 1000000
set_option maxHeartbeats 8000000
namespace Go.Proofs.YtgchnkgolclmgaaGreatDoor.W
open Go.ChangeShapes Go.WideShapes Go.RowKit
theorem mh(s T:ByteArray)(w:World)(s0:0<s.size)(R4:s.size<=64)(he:s.toList.isEmpty=false)(hc:((s[0].toNat:Int)==45)=true)(hT:s.extract 1 s.size=T)(n1:(s.toList==[110,97,110])=false)(n2:(s.toList==[105,110,102])=false)(n3:(s.toList==[45,105,110,102])=false)(t64:T.size<=64)(t2:1<T.size)(h0:T[0]=48)(h1:T[1]=120)(e1:Nat)(ST:Stop T 2 e1)(hnd:e1≠2->∀h:e1<T.size,T[e1]≠46) :
  Calls Tryz.prog 67 #[.string s] w λe w'=>e=.returned (.tuple #[.int .u64 (cO 9223372036854775808 (bG T.data.toList)).1,.int .i64 (cO 9223372036854775808 (bG T.data.toList)).2])/\Below w.heap.size w w':=by
 obtain⟨sg,qy⟩:∃sg:Int,sg=9223372036854775808:=⟨_,rfl⟩
 have hsg:sg=0\/sg=9223372036854775808:=by omega
 rw[<- qy]
 have Nc:=hid qy
 clear qy
 have yH:=hid ST
 have st1:=ST.le
 have st2:=ST.size
 have BM:=hid (qD T t2 h0 h1)
 have q48:((T[0].toNat:Int)!=48)=false:=by rw[h0];rfl
 have Ri:((T[1].toNat:Int)!=120)=false:=by rw[h1];rfl
 clear ST h0 h1
 have XI:=hid hnd
 clear hnd
 go_enter Tryz.func67,Tryz.ntmps67
 go_wp2_with fail
 go_loopw [5,6,7] (λav v ah wr=>∃k:Nat,2<=k/\k<=e1/\av=.int .i64 k/\ah=.int .i64 ((k:Int)-2)/\wr.ownsRow w.heap.size 3 1 v (4*(k-2)) (lS (bitsOf (seg T 2 k)))/\Below w.heap.size w wr) (λav _ _ _=>100-(intOf av).toNat)
 case atStart=>exact⟨2,Nat.le_refl _,st1,rfl,rfl,by rw[eO];exact World.ownsRow_nil _ _ _ _,Below.refl _ _⟩
 case round=>
  obtain⟨k,hk1,hk2,rfl,rfl,hown,hbl⟩:=hrel
  by_cases hke:k<e1
  ·have Ag:k<T.size:=by omega
   have hx0:=yH.out.hex k Ag hk1 hke
   obtain⟨d,hd⟩:=Int.eq_ofNat_of_zero_le hx0
   have wZ:=(fE T[k]).2
   have Dl:d<16:=by omega
   have Mt:=jO w.heap.size u6 (4*(k-2)) d (bitsOf (seg T 2 k)) wr hown hbl.size (by omega) Dl
   have HB:=hid (show bitsOf (seg T 2 k)++Dh d=bitsOf (seg T 2 (k+1)) by rw[jX T 2 k hk1 Ag,iX,hd];rfl)
   have rE:=hid hbl
   have hd0:(0:Int)<=(d:Int):=by omega
   clear hown hbl hx0 wZ
   go_wp2_with (first|(go_at_call 95;refine(aJ _ _).mono ?_;rintro e wz ⟨rfl,hz⟩;(have hz':=hz.symm);subst hz';clear hz)|(go_at_call 96;refine Mt.mono ?_;rintro e w1 ⟨v2,rfl,hown2,hb2⟩))
   go_roundw
   case rel=>exact⟨k+1,by omega,by omega,by go_num,by go_num,by rw[<- HB.out,show 4*(k+1-2)=4*(k-2)+4 by omega];exact hown2,rE.out.trans hb2⟩
   case measure=>simp[intOf];omega
  ·have hkk:k=e1:=by omega
   subst hkk
   clear hke hk2
   by_cases hz2:k=2
   ·have E:=hid (show cO sg (bG T.data.toList)=(0,20) by rw[BM.out,qC T k yH.out hz2];rfl)
    have hz2':((k:Int)-2==0)=true:=by rw[hz2];rfl
    clear hz2
    by_cases hend:k<T.size
    ·have hno:=yH.out.no hend
     go_wp2_with (go_at_call 95;refine(aJ _ _).mono ?_;rintro e wz ⟨rfl,hz⟩;(have hz':=hz.symm);subst hz';clear hz)
     go_ret2
     exact⟨aZ (by rw[E.out]) (by rw[E.out]),hbl⟩
    ·go_wp2_with (go_at_call 95;refine(aJ _ _).mono ?_;rintro e wz ⟨rfl,hz⟩;(have hz':=hz.symm);subst hz';clear hz)
     go_ret2
     exact⟨aZ (by rw[E.out]) (by rw[E.out]),hbl⟩
   ·have hz2':((k:Int)-2==0)=false:=by rw[beq_eq_false_iff_ne];omega
    have EB:=hid (show bG T.data.toList=jF (iI (seg T 2 k)) 0 (T.data.toList.drop k) by rw[BM.out];exact xL T k yH.out hz2 (XI.out hz2))
    have VB:=hid (show iI (seg T 2 k)=dF (bitsOf (seg T 2 k)) from(nY _).symm)
    by_cases hend:k<T.size
    ·have hno:=yH.out.no hend
     have q46:((T[k].toNat:Int)==46)=false:=by rw[show (46:Int)=((46:UInt8).toNat:Int) from rfl,iw];exact decide_eq_false (XI.out hz2 hend)
     have hnb:0<4*(k-2):=by omega
     rcases hown.2 with⟨hv,hz⟩|⟨g,cap,cur,hv,hg,hh,hnc,hcm,hcs,htk⟩
     ·omega
     have xW:=hid (show sV wr g 0 (4*(k-2)) (bitsOf (seg T 2 k)) from⟨by rw[fO,fB T 2 k hk1 st2],nZ _,λj hj=>by
      have hj2:j<(bitsOf (seg T 2 k)).length:=by rw[fO,fB T 2 k hk1 st2];exact hj
      have:=hown.cells (g:=g) (by rw[hv];rfl) j (.int .i64 ((((bitsOf (seg T 2 k)).getD j 0:Nat)):Int)) (by
       unfold lS
       rw[List.getElem?_map,aH hj2]
       simp[List.getD_eq_getElem?_getD,aH hj2])
      cases j with
      | zero=>simpa [Addr.add] using this
      | succ j=>simpa [Addr.add] using this⟩)
     have HCAP:=hid (show 4*(k-2)<=cap/\cap<=maxLen from⟨hnc,hcm⟩)
     subst hv
     clear hg hh hnc hcm hcs htk hown
     clear hz2
     have TB:(k:Int)<=(T.size:Int):=by omega
     by_cases hA:T.size<=k+1
     ·have E:=hid (show cO sg (bG T.data.toList)=(0,20) by rw[EB.out,aK,jR T k hA];rfl)
      have hA':(T.size:Int)<=(k:Int)+1:=by omega
      go_wp2_with (go_at_call 95;refine(aJ _ _).mono ?_;rintro e wz ⟨rfl,hz⟩;(have hz':=hz.symm);subst hz';clear hz)
      go_ret2
      exact⟨aZ (by rw[E.out]) (by rw[E.out]),hbl⟩
     ·have hA':¬ (T.size:Int)<=(k:Int)+1:=by omega
      have hA1:k<T.size:=by omega
      have hA2:k+1<T.size:=by omega
      have hi2:((k:Int)+1).toNat=k+1:=by omega
      by_cases hP:T[k]=112
      ·have qP:((T[k].toNat:Int)!=112)=false:=by rw[hP];rfl
       by_cases hM:T[k+1]=45
       ·have LC:((T[k+1].toNat:Int)!=43)=true:=by rw[hM];rfl
        have ES:((T[k+1].toNat:Int)!=45)=false:=by rw[hM];rfl
        have Rh:((T[k+1].toNat:Int)==45)=true:=by rw[hM];rfl
        have PD:=hid (oW T k hA2 hP (Or.inr hM))
        rw[if_pos hM] at PD
        clear hP hM
        obtain⟨dn,hdn⟩:∃dn,T.size-(k+2)=dn:=⟨_,rfl⟩
        have hdl:(T.data.toList.drop (k+2)).length=dn:=by rw[List.length_drop,size_list];exact hdn
        rw[hdl] at PD
        by_cases hz0:dn=0
        ·have E:=hid (show cO sg (bG T.data.toList)=(0,20) by
          have hnil:T.data.toList.drop (k+2)=[]:=aL (by omega)
          have:fP (T.data.toList.drop (k+2))=false:=by rw[hnil];rfl
          rw[EB.out,aK,PD.out,this,if_neg (by rintro⟨h,-⟩;cases h)];rfl)
         have hq:((k:Int)+2==(T.size:Int))=true:=by rw[beq_iff_eq];omega
         go_wp2_with (go_at_call 95;refine(aJ _ _).mono ?_;rintro e wz ⟨rfl,hz⟩;(have hz':=hz.symm);subst hz';clear hz)
         go_ret2
         exact⟨aZ (by rw[E.out]) (by rw[E.out]),hbl⟩
        ·have hq:((k:Int)+2==(T.size:Int))=false:=by rw[beq_eq_false_iff_ne];omega
         by_cases h5:5<dn
         ·have E:=hid (show cO sg (bG T.data.toList)=(0,20) by rw[EB.out,aK,PD.out,if_neg (by rintro⟨-,h⟩;omega)];rfl)
          have Ez:5<(T.size:Int)-((k:Int)+2):=by omega
          go_wp2_with (go_at_call 95;refine(aJ _ _).mono ?_;rintro e wz ⟨rfl,hz⟩;(have hz':=hz.symm);subst hz';clear hz)
          go_ret2
          exact⟨aZ (by rw[E.out]) (by rw[E.out]),hbl⟩
         ·have Ez:¬5<(T.size:Int)-((k:Int)+2):=by omega
          go_wp2_with (go_at_call 95;refine(aJ _ _).mono ?_;rintro e wz ⟨rfl,hz⟩;(have hz':=hz.symm);subst hz';clear hz)
          go_loop [5,10] (λav pv=>∃q:Nat,k+2<=q/\q<=T.size/\av=.int .i64 q/\pv=.int .i64 ((au (seg T (k+2) q):Nat):Int)/\(seg T (k+2) q).all bI=true) (λav _=>T.size-(intOf av).toNat)
          case atStart=>exact⟨k+2,Nat.le_refl _,by omega,by go_num,by rw[eO];rfl,by rw[eO];rfl⟩
          case round=>
           obtain⟨q,hq1,hq2,rfl,rfl,hall⟩:=hrel
           have hsm:=jN T (k+2) q hall (by rw[fB T (k+2) q hq1 hq2];omega)
           by_cases hlt:q<T.size
           ·cases hd:bI T[q] with
            | false=>
             have E:=hid (show cO sg (bG T.data.toList)=(0,20) by rw[EB.out,aK,PD.out,lZ T (k+2) q hq1 hlt hd,if_neg (by rintro⟨h,-⟩;cases h)];rfl)
             rw[uO] at hd
             have hd2:decide ((T[q].toNat:Int)<48)=true\/decide ((T[q].toNat:Int)<48)=false/\decide (57<(T[q].toNat:Int))=true:=by
              cases h1:decide ((T[q].toNat:Int)<48) with
              | true=>exact Or.inl rfl
              | false=>exact Or.inr ⟨rfl,by rw[h1] at hd;simpa using hd⟩
             clear hd hall
             rcases hd2 with g1|⟨g1,g2⟩
             ·go_wp2_with (go_at_call 95;refine(aJ _ _).mono ?_;rintro e wz ⟨rfl,hz⟩;(have hz':=hz.symm);subst hz';clear hz)
              go_ret2
              exact⟨aZ (by rw[E.out]) (by rw[E.out]),hbl⟩
             ·go_wp2_with (go_at_call 95;refine(aJ _ _).mono ?_;rintro e wz ⟨rfl,hz⟩;(have hz':=hz.symm);subst hz';clear hz)
              go_ret2
              exact⟨aZ (by rw[E.out]) (by rw[E.out]),hbl⟩
            | true=>
             have dd:=of_decide_eq_true hd
             have R2:=hid (l5 T (k+2) q hq1 hlt hd hall)
             have R3:=hid (show ((au (seg T (k+2) (q+1)):Nat):Int)=10*((au (seg T (k+2) q):Nat):Int)+((T[q].toNat:Int)-48) by rw[lY T (k+2) q hq1 hlt];omega)
             have g1:decide ((T[q].toNat:Int)<48)=false:=decide_eq_false (by omega)
             have g2:decide (57<(T[q].toNat:Int))=false:=decide_eq_false (by omega)
             have e1:=mK T[q] dd
             have d0':=dd.1
             have d1':=dd.2
             have v1:((au (seg T (k+2) q):Nat):Int)<100000:=by omega
             have v0:(0:Int)<=((au (seg T (k+2) q):Nat):Int):=by omega
             generalize ((au (seg T (k+2) q):Nat):Int)=vv at *
             clear hd dd hall hsm
             go_wp2_with (go_at_call 95;refine(aJ _ _).mono ?_;rintro e wz ⟨rfl,hz⟩;(have hz':=hz.symm);subst hz';clear hz)
             go_round
             case rel=>exact⟨q+1,by omega,hlt,by go_num,by rw[R3.out],R2.out⟩
             case measure=>simp[intOf];omega
           ·have hkk:q=T.size:=by omega
            have ku:seg T (k+2) q=T.data.toList.drop (k+2):=by rw[hkk];exact l7 T _
            rw[ku] at hall hsm ⊢
            have hnn:fP (T.data.toList.drop (k+2))=true:=by
             unfold fP
             rw[hall]
             cases hx:T.data.toList.drop (k+2) with
             | nil=>rw[hx] at hdl;exact absurd hdl.symm hz0
             | cons c r=>rfl
            have E:=hid (show cO sg (bG T.data.toList)=sO sg (bH (dF (bitsOf (seg T 2 k))) (-((au (T.data.toList.drop (k+2)):Nat):Int)-4*(0:Int))) by
             rw[EB.out,aK,PD.out,if_pos ⟨hnn,by omega⟩,VB.out]
             exact kR _ _ _)
            have v1:((au (T.data.toList.drop (k+2)):Nat):Int)<100000:=by omega
            have v0:(0:Int)<=((au (T.data.toList.drop (k+2)):Nat):Int):=by omega
            generalize hpp:((au (T.data.toList.drop (k+2)):Nat):Int)=pp at *
            have cx:=iP g (4*(k-2)) cap (bitsOf (seg T 2 k)) sg (-pp) wr xW.out (by omega) HCAP.out.1 HCAP.out.2 (by omega) (by omega) hsg
            rw[kQ] at cx
            obtain⟨r1,hr1⟩:∃r1,(sO sg (bH (dF (bitsOf (seg T 2 k))) (-pp))).1=r1:=⟨_,rfl⟩
            obtain⟨r2,hr2⟩:∃r2,(sO sg (bH (dF (bitsOf (seg T 2 k))) (-pp))).2=r2:=⟨_,rfl⟩
            rw[hr1,hr2] at cx
            have E1:=hid (show r1=(cO sg (bG T.data.toList)).1 by rw[E.out,<- hr1];simp)
            have E2:=hid (show r2=(cO sg (bG T.data.toList)).2 by rw[E.out,<- hr2];simp)
            clear hr1 hr2 E
            rw[Nc.out] at cx
            clear hall hsm ku hnn hpp hlt
            have Ag:¬ (q:Int)<(T.size:Int):=by omega
            go_wp2_with (first|(go_at_call 95;refine(aJ _ _).mono ?_;rintro e wz ⟨rfl,hz⟩;(have hz':=hz.symm);subst hz';clear hz)|(go_at_call 97;(with_reducible refine cx.mono ?_);rintro e wz ⟨rfl,hz⟩;(have hz':=hz.symm);subst hz';clear hz))
            go_ret2
            exact⟨aZ E1.out E2.out,hbl⟩
       ·by_cases qz:T[k+1]=43
        ·have LC:((T[k+1].toNat:Int)!=43)=false:=by rw[qz];rfl
         have Rh:((T[k+1].toNat:Int)==45)=false:=by rw[qz];rfl
         have PD:=hid (oW T k hA2 hP (Or.inl qz))
         rw[if_neg hM] at PD
         clear hP hM qz
         obtain⟨dn,hdn⟩:∃dn,T.size-(k+2)=dn:=⟨_,rfl⟩
         have hdl:(T.data.toList.drop (k+2)).length=dn:=by rw[List.length_drop,size_list];exact hdn
         rw[hdl] at PD
         by_cases hz0:dn=0
         ·have E:=hid (show cO sg (bG T.data.toList)=(0,20) by
           have hnil:T.data.toList.drop (k+2)=[]:=aL (by omega)
           have:fP (T.data.toList.drop (k+2))=false:=by rw[hnil];rfl
           rw[EB.out,aK,PD.out,this,if_neg (by rintro⟨h,-⟩;cases h)];rfl)
          have hq:((k:Int)+2==(T.size:Int))=true:=by rw[beq_iff_eq];omega
          go_wp2_with (go_at_call 95;refine(aJ _ _).mono ?_;rintro e wz ⟨rfl,hz⟩;(have hz':=hz.symm);subst hz';clear hz)
          go_ret2
          exact⟨aZ (by rw[E.out]) (by rw[E.out]),hbl⟩
         ·have hq:((k:Int)+2==(T.size:Int))=false:=by rw[beq_eq_false_iff_ne];omega
          by_cases h5:5<dn
          ·have E:=hid (show cO sg (bG T.data.toList)=(0,20) by rw[EB.out,aK,PD.out,if_neg (by rintro⟨-,h⟩;omega)];rfl)
           have Ez:5<(T.size:Int)-((k:Int)+2):=by omega
           go_wp2_with (go_at_call 95;refine(aJ _ _).mono ?_;rintro e wz ⟨rfl,hz⟩;(have hz':=hz.symm);subst hz';clear hz)
           go_ret2
           exact⟨aZ (by rw[E.out]) (by rw[E.out]),hbl⟩
          ·have Ez:¬5<(T.size:Int)-((k:Int)+2):=by omega
           go_wp2_with (go_at_call 95;refine(aJ _ _).mono ?_;rintro e wz ⟨rfl,hz⟩;(have hz':=hz.symm);subst hz';clear hz)
           go_loop [5,10] (λav pv=>∃q:Nat,k+2<=q/\q<=T.size/\av=.int .i64 q/\pv=.int .i64 ((au (seg T (k+2) q):Nat):Int)/\(seg T (k+2) q).all bI=true) (λav _=>T.size-(intOf av).toNat)
           case atStart=>exact⟨k+2,Nat.le_refl _,by omega,by go_num,by rw[eO];rfl,by rw[eO];rfl⟩
           case round=>
            obtain⟨q,hq1,hq2,rfl,rfl,hall⟩:=hrel
            have hsm:=jN T (k+2) q hall (by rw[fB T (k+2) q hq1 hq2];omega)
            by_cases hlt:q<T.size
            ·cases hd:bI T[q] with
             | false=>
              have E:=hid (show cO sg (bG T.data.toList)=(0,20) by rw[EB.out,aK,PD.out,lZ T (k+2) q hq1 hlt hd,if_neg (by rintro⟨h,-⟩;cases h)];rfl)
              rw[uO] at hd
              have hd2:decide ((T[q].toNat:Int)<48)=true\/decide ((T[q].toNat:Int)<48)=false/\decide (57<(T[q].toNat:Int))=true:=by
               cases h1:decide ((T[q].toNat:Int)<48) with
               | true=>exact Or.inl rfl
               | false=>exact Or.inr ⟨rfl,by rw[h1] at hd;simpa using hd⟩
              clear hd hall
              rcases hd2 with g1|⟨g1,g2⟩
              ·go_wp2_with (go_at_call 95;refine(aJ _ _).mono ?_;rintro e wz ⟨rfl,hz⟩;(have hz':=hz.symm);subst hz';clear hz)
               go_ret2
               exact⟨aZ (by rw[E.out]) (by rw[E.out]),hbl⟩
              ·go_wp2_with (go_at_call 95;refine(aJ _ _).mono ?_;rintro e wz ⟨rfl,hz⟩;(have hz':=hz.symm);subst hz';clear hz)
               go_ret2
               exact⟨aZ (by rw[E.out]) (by rw[E.out]),hbl⟩
             | true=>
              have dd:=of_decide_eq_true hd
              have R2:=hid (l5 T (k+2) q hq1 hlt hd hall)
              have R3:=hid (show ((au (seg T (k+2) (q+1)):Nat):Int)=10*((au (seg T (k+2) q):Nat):Int)+((T[q].toNat:Int)-48) by rw[lY T (k+2) q hq1 hlt];omega)
              have g1:decide ((T[q].toNat:Int)<48)=false:=decide_eq_false (by omega)
              have g2:decide (57<(T[q].toNat:Int))=false:=decide_eq_false (by omega)
              have e1:=mK T[q] dd
              have d0':=dd.1
              have d1':=dd.2
              have v1:((au (seg T (k+2) q):Nat):Int)<100000:=by omega
              have v0:(0:Int)<=((au (seg T (k+2) q):Nat):Int):=by omega
              generalize ((au (seg T (k+2) q):Nat):Int)=vv at *
              clear hd dd hall hsm
              go_wp2_with (go_at_call 95;refine(aJ _ _).mono ?_;rintro e wz ⟨rfl,hz⟩;(have hz':=hz.symm);subst hz';clear hz)
              go_round
              case rel=>exact⟨q+1,by omega,hlt,by go_num,by rw[R3.out],R2.out⟩
              case measure=>simp[intOf];omega
            ·have hkk:q=T.size:=by omega
             have ku:seg T (k+2) q=T.data.toList.drop (k+2):=by rw[hkk];exact l7 T _
             rw[ku] at hall hsm ⊢
             have hnn:fP (T.data.toList.drop (k+2))=true:=by
              unfold fP
              rw[hall]
              cases hx:T.data.toList.drop (k+2) with
              | nil=>rw[hx] at hdl;exact absurd hdl.symm hz0
              | cons c r=>rfl
             have E:=hid (show cO sg (bG T.data.toList)=sO sg (bH (dF (bitsOf (seg T 2 k))) (((au (T.data.toList.drop (k+2)):Nat):Int)-4*(0:Int))) by
              rw[EB.out,aK,PD.out,if_pos ⟨hnn,by omega⟩,VB.out]
              exact kR _ _ _)
             have v1:((au (T.data.toList.drop (k+2)):Nat):Int)<100000:=by omega
             have v0:(0:Int)<=((au (T.data.toList.drop (k+2)):Nat):Int):=by omega
             generalize hpp:((au (T.data.toList.drop (k+2)):Nat):Int)=pp at *
             have cx:=iP g (4*(k-2)) cap (bitsOf (seg T 2 k)) sg (pp) wr xW.out (by omega) HCAP.out.1 HCAP.out.2 (by omega) (by omega) hsg
             rw[kQ] at cx
             obtain⟨r1,hr1⟩:∃r1,(sO sg (bH (dF (bitsOf (seg T 2 k))) (pp))).1=r1:=⟨_,rfl⟩
             obtain⟨r2,hr2⟩:∃r2,(sO sg (bH (dF (bitsOf (seg T 2 k))) (pp))).2=r2:=⟨_,rfl⟩
             rw[hr1,hr2] at cx
             have E1:=hid (show r1=(cO sg (bG T.data.toList)).1 by rw[E.out,<- hr1];simp)
             have E2:=hid (show r2=(cO sg (bG T.data.toList)).2 by rw[E.out,<- hr2];simp)
             clear hr1 hr2 E
             rw[Nc.out] at cx
             clear hall hsm ku hnn hpp hlt
             have Ag:¬ (q:Int)<(T.size:Int):=by omega
             go_wp2_with (first|(go_at_call 95;refine(aJ _ _).mono ?_;rintro e wz ⟨rfl,hz⟩;(have hz':=hz.symm);subst hz';clear hz)|(go_at_call 97;(with_reducible refine cx.mono ?_);rintro e wz ⟨rfl,hz⟩;(have hz':=hz.symm);subst hz';clear hz))
             go_ret2
             exact⟨aZ E1.out E2.out,hbl⟩
        ·have LC:((T[k+1].toNat:Int)!=43)=true:=by rw[show (43:Int)=((43:UInt8).toNat:Int) from rfl,bne,iw,decide_eq_false qz];rfl
         have ES:((T[k+1].toNat:Int)!=45)=true:=by rw[show (45:Int)=((45:UInt8).toNat:Int) from rfl,bne,iw,decide_eq_false hM];rfl
         have E:=hid (show cO sg (bG T.data.toList)=(0,20) by rw[EB.out,aK,nU T k hA2 qz hM];rfl)
         clear hP hM qz
         go_wp2_with (go_at_call 95;refine(aJ _ _).mono ?_;rintro e wz ⟨rfl,hz⟩;(have hz':=hz.symm);subst hz';clear hz)
         go_ret2
         exact⟨aZ (by rw[E.out]) (by rw[E.out]),hbl⟩
      ·have qP:((T[k].toNat:Int)!=112)=true:=by rw[show (112:Int)=((112:UInt8).toNat:Int) from rfl,bne,iw,decide_eq_false hP];rfl
       have E:=hid (show cO sg (bG T.data.toList)=(0,20) by rw[EB.out,aK,vH T k hA2 hP];rfl)
       clear hP
       go_wp2_with (go_at_call 95;refine(aJ _ _).mono ?_;rintro e wz ⟨rfl,hz⟩;(have hz':=hz.symm);subst hz';clear hz)
       go_ret2
       exact⟨aZ (by rw[E.out]) (by rw[E.out]),hbl⟩
    ·have E:=hid (show cO sg (bG T.data.toList)=(0,20) by rw[EB.out,aK,jR T k (by omega)];rfl)
     go_wp2_with (go_at_call 95;refine(aJ _ _).mono ?_;rintro e wz ⟨rfl,hz⟩;(have hz':=hz.symm);subst hz';clear hz)
     go_ret2
     exact⟨aZ (by rw[E.out]) (by rw[E.out]),hbl⟩
end Go.Proofs.YtgchnkgolclmgaaGreatDoor.W

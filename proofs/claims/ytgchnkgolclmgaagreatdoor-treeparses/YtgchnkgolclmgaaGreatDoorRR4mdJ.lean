import Derived.Test.YtgchnkgolclmgaaGreatDoorRA
open List renaming getElem?_eq_getElem → aY, eq_nil_of_length_eq_zero → ay
open Nat renaming le_refl → aH
open Int renaming eq_ofNat_of_zero_le → aL
set_option maxRecDepth 1000000
set_option maxHeartbeats 8000000
namespace Go.Proofs.YtgchnkgolclmgaaGreatDoor.W
open Go.ChangeShapes Go.WideShapes Go.RowKit
theorem tQ(s T:ByteArray)(w:World)(s0:0<s.size)(R4:s.size<=64)(he:s.toList.isEmpty=false)(hc:((s[0].toNat:Int)==45)=true)(hT:s.extract 1 s.size=T)(n1:(s.toList==[110,97,110])=false)(n2:(s.toList==[105,110,102])=false)(n3:(s.toList==[45,105,110,102])=false)(t64:T.size<=64)(t2:1<T.size)(h0:T[0]=48)(h1:T[1]=120)(e1 f1:Nat)(hne:e1≠2)(hel:e1<T.size)(pI:T[e1]=46)(ST:Stop T 2 e1)(SF:Stop T (e1+1) f1) :
  Calls Tryz.prog 67 #[.string s] w λe w'=>e=.returned (.tuple #[.int .u64 (cO 9223372036854775808 (bG T.data.toList)).1,.int .i64 (cO 9223372036854775808 (bG T.data.toList)).2])/\Below w.heap.size w w':=by
 obtain⟨sg,qy⟩:∃sg:Int,sg=9223372036854775808:=⟨_,rfl⟩
 have hsg:sg=0\/sg=9223372036854775808:=by omega
 rw[<- qy]
 have Nc:=hid qy
 clear qy
 have yH:=hid ST
 have st1:=ST.le
 have st2:=ST.size
 have BM:=hid (qD T t2 h0 h1)
 have q48:((T[0].toNat:Int)!=48)=false:=by rw[h0];rfl
 have Ri:((T[1].toNat:Int)!=120)=false:=by rw[h1];rfl
 clear ST h0 h1
 have Pn:=hid SF
 have sf1:=SF.le
 have Us:=SF.size
 have q46:((T[e1].toNat:Int)==46)=true:=by rw[pI];rfl
 have UG:=hid pI
 clear SF pI
 go_enter Tryz.func67,Tryz.ntmps67
 go_wp2_with fail
 go_loopw [5,6,7] (λav v ah wr=>∃k:Nat,2<=k/\k<=e1/\av=.int .i64 k/\ah=.int .i64 ((k:Int)-2)/\wr.ownsRow w.heap.size 3 1 v (4*(k-2)) (lS (bitsOf (seg T 2 k)))/\Below w.heap.size w wr) (λav _ _ _=>100-(intOf av).toNat)
 case atStart=>exact⟨2,aH _,st1,rfl,rfl,by rw[eO];exact World.ownsRow_nil _ _ _ _,Below.refl _ _⟩
 case round=>
  obtain⟨k,hk1,hk2,rfl,rfl,hown,hbl⟩:=hrel
  by_cases hke:k<e1
  ·have Ag:k<T.size:=by omega
   have hx0:=yH.out.hex k Ag hk1 hke
   obtain⟨d,hd⟩:=aL hx0
   have wZ:=(fE T[k]).2
   have Dl:d<16:=by omega
   have Mt:=jO w.heap.size u6 (4*(k-2)) d (bitsOf (seg T 2 k)) wr hown hbl.size (by omega) Dl
   have HB:=hid (show bitsOf (seg T 2 k)++Dh d=bitsOf (seg T 2 (k+1)) by rw[jX T 2 k hk1 Ag,iX,hd];rfl)
   have rE:=hid hbl
   have hd0:(0:Int)<=(d:Int):=by omega
   clear hown hbl hx0 wZ
   go_wp2_with (first|(go_at_call 95;refine(aJ _ _).mono ?_;rintro e wz ⟨rfl,hz⟩;(have hz':=hz.symm);subst hz';clear hz)|(go_at_call 96;refine Mt.mono ?_;rintro e w1 ⟨v2,rfl,hown2,hb2⟩))
   go_roundw
   case rel=>exact⟨k+1,by omega,by omega,by go_num,by go_num,by rw[<- HB.out,show 4*(k+1-2)=4*(k-2)+4 by omega];exact hown2,rE.out.trans hb2⟩
   case measure=>simp[intOf];omega
  ·have hkk:k=e1:=by omega
   subst hkk
   clear hke hk2
   by_cases hz2:k=2
   ·have E:=hid (show cO sg (bG T.data.toList)=(0,20) by rw[BM.out,qC T k yH.out hz2];rfl)
    have hz2':((k:Int)-2==0)=true:=by rw[hz2];rfl
    exact absurd hz2 hne
   ·have hz2':((k:Int)-2==0)=false:=by rw[beq_eq_false_iff_ne];omega
    have hno:=yH.out.no hel
    have Jl:=hid (show 2<=k from hk1)
    have BP:=hid (xK T k f1 yH.out hne hel UG.out Pn.out)
    go_wp2_with (go_at_call 95;refine(aJ _ _).mono ?_;rintro e wz ⟨rfl,hz⟩;(have hz':=hz.symm);subst hz';clear hz)
    go_loopw [5,6,8] (λav v bh wr=>∃m:Nat,k+1<=m/\m<=f1/\av=.int .i64 m/\bh=.int .i64 ((m:Int)-((k:Int)+1))/\wr.ownsRow w.heap.size 3 1 v (4*(k-2)+4*(m-(k+1))) (lS (bitsOf (seg T 2 k)++bitsOf (seg T (k+1) m)))/\Below w.heap.size w wr) (λav _ _ _=>100-(intOf av).toNat)
    case atStart=>exact⟨k+1,aH _,sf1,by go_num,int_eq (by omega),by rw[eO,show 4*(k-2)+4*(k+1-(k+1))=4*(k-2) by omega];show _;simpa [bitsOf] using hown,hbl⟩
    case round=>
     clear hown hbl
     obtain⟨m,hm1,hm2,rfl,rfl,hown,hbl⟩:=hrel
     by_cases hme:m<f1
     ·have Vi:m<T.size:=by omega
      have hx0:=Pn.out.hex m Vi hm1 hme
      obtain⟨d,hd⟩:=aL hx0
      have wZ:=(fE T[m]).2
      have Dl:d<16:=by omega
      have Mt:=jO w.heap.size u6 (4*(k-2)+4*(m-(k+1))) d (bitsOf (seg T 2 k)++bitsOf (seg T (k+1) m)) wr hown hbl.size (by omega) Dl
      have HB:=hid (show (bitsOf (seg T 2 k)++bitsOf (seg T (k+1) m))++Dh d=bitsOf (seg T 2 k)++bitsOf (seg T (k+1) (m+1)) by rw[jX T (k+1) m hm1 Vi,iX,hd,List.append_assoc];rfl)
      have rE:=hid hbl
      have hd0:(0:Int)<=(d:Int):=by omega
      clear hown hbl hx0 wZ
      go_wp2_with (first|(go_at_call 95;refine(aJ _ _).mono ?_;rintro e wz ⟨rfl,hz⟩;(have hz':=hz.symm);subst hz';clear hz)|(go_at_call 96;refine Mt.mono ?_;rintro e w1 ⟨v2,rfl,hown2,hb2⟩))
      go_roundw
      case rel=>exact⟨m+1,by omega,by omega,by go_num,by go_num,by rw[<- HB.out,show 4*(k-2)+4*(m+1-(k+1))=4*(k-2)+4*(m-(k+1))+4 by omega];exact hown2,rE.out.trans hb2⟩
      case measure=>simp[intOf];omega
     ·have hmm:m=f1:=by omega
      subst hmm
      clear hme hm2
      by_cases JJ:m=k+1
      ·have E:=hid (show cO sg (bG T.data.toList)=(0,20) by rw[BM.out,BP.out,if_pos JJ];rfl)
       have hzf':((m:Int)-((k:Int)+1)==0)=true:=by rw[beq_iff_eq];omega
       clear JJ
       by_cases hend:m<T.size
       ·have Sy:=Pn.out.no hend
        go_wp2_with (go_at_call 95;refine(aJ _ _).mono ?_;rintro e wz ⟨rfl,hz⟩;(have hz':=hz.symm);subst hz';clear hz)
        go_ret2
        exact⟨aZ (by rw[E.out]) (by rw[E.out]),hbl⟩
       ·go_wp2_with (go_at_call 95;refine(aJ _ _).mono ?_;rintro e wz ⟨rfl,hz⟩;(have hz':=hz.symm);subst hz';clear hz)
        go_ret2
        exact⟨aZ (by rw[E.out]) (by rw[E.out]),hbl⟩
      ·have hzf':((m:Int)-((k:Int)+1)==0)=false:=by rw[beq_eq_false_iff_ne];omega
       have EB:=hid (show bG T.data.toList=jF (iI (seg T 2 k++seg T (k+1) m)) (m-(k+1)) (T.data.toList.drop m) by rw[BM.out,BP.out,if_neg JJ])
       have VB:=hid (show iI (seg T 2 k++seg T (k+1) m)=dF (bitsOf (seg T 2 k)++bitsOf (seg T (k+1) m)) by rw[<- qQ,nY])
       by_cases hend:m<T.size
       ·have Sy:=Pn.out.no hend
        have hnb:0<4*(k-2)+4*(m-(k+1)):=by omega
        rcases hown.2 with⟨hv,hz⟩|⟨g,cap,cur,hv,hg,hh,hnc,hcm,hcs,htk⟩
        ·omega
        have xW:=hid (show sV wr g 0 (4*(k-2)+4*(m-(k+1))) (bitsOf (seg T 2 k)++bitsOf (seg T (k+1) m)) from⟨by rw[List.length_append,fO,fO,fB T 2 k Jl.out (by omega),fB T (k+1) m hm1 Us],(λb hb=>by rcases List.mem_append.1 hb with hb|hb <;> exact nZ _ b hb),λj hj=>by
         have hj2:j<(bitsOf (seg T 2 k)++bitsOf (seg T (k+1) m)).length:=by rw[List.length_append,fO,fO,fB T 2 k Jl.out (by omega),fB T (k+1) m hm1 Us];exact hj
         have:=hown.cells (g:=g) (by rw[hv];rfl) j (.int .i64 ((((bitsOf (seg T 2 k)++bitsOf (seg T (k+1) m)).getD j 0:Nat)):Int)) (by
          unfold lS
          rw[List.getElem?_map,aY hj2]
          simp[List.getD_eq_getElem?_getD,aY hj2])
         cases j with
         | zero=>simpa [Addr.add] using this
         | succ j=>simpa [Addr.add] using this⟩)
        have HCAP:=hid (show 4*(k-2)+4*(m-(k+1))<=cap/\cap<=maxLen from⟨hnc,hcm⟩)
        subst hv
        clear hg hh hnc hcm hcs htk hown
        clear JJ
        have TB:(m:Int)<=(T.size:Int):=by omega
        by_cases hA:T.size<=m+1
        ·have E:=hid (show cO sg (bG T.data.toList)=(0,20) by rw[EB.out,aK,jR T m hA];rfl)
         have hA':(T.size:Int)<=(m:Int)+1:=by omega
         go_wp2_with (go_at_call 95;refine(aJ _ _).mono ?_;rintro e wz ⟨rfl,hz⟩;(have hz':=hz.symm);subst hz';clear hz)
         go_ret2
         exact⟨aZ (by rw[E.out]) (by rw[E.out]),hbl⟩
        ·have hA':¬ (T.size:Int)<=(m:Int)+1:=by omega
         have hA1:m<T.size:=by omega
         have hA2:m+1<T.size:=by omega
         have hi2:((m:Int)+1).toNat=m+1:=by omega
         by_cases hP:T[m]=112
         ·have qP:((T[m].toNat:Int)!=112)=false:=by rw[hP];rfl
          by_cases hM:T[m+1]=45
          ·have LC:((T[m+1].toNat:Int)!=43)=true:=by rw[hM];rfl
           have ES:((T[m+1].toNat:Int)!=45)=false:=by rw[hM];rfl
           have Rh:((T[m+1].toNat:Int)==45)=true:=by rw[hM];rfl
           have PD:=hid (oW T m hA2 hP (Or.inr hM))
           rw[if_pos hM] at PD
           clear hP hM
           obtain⟨dn,hdn⟩:∃dn,T.size-(m+2)=dn:=⟨_,rfl⟩
           have hdl:(T.data.toList.drop (m+2)).length=dn:=by rw[List.length_drop,size_list];exact hdn
           rw[hdl] at PD
           by_cases hz0:dn=0
           ·have E:=hid (show cO sg (bG T.data.toList)=(0,20) by
             have hnil:T.data.toList.drop (m+2)=[]:=ay (by omega)
             have:fP (T.data.toList.drop (m+2))=false:=by rw[hnil];rfl
             rw[EB.out,aK,PD.out,this,if_neg (by rintro⟨h,-⟩;cases h)];rfl)
            have hq:((m:Int)+2==(T.size:Int))=true:=by rw[beq_iff_eq];omega
            go_wp2_with (go_at_call 95;refine(aJ _ _).mono ?_;rintro e wz ⟨rfl,hz⟩;(have hz':=hz.symm);subst hz';clear hz)
            go_ret2
            exact⟨aZ (by rw[E.out]) (by rw[E.out]),hbl⟩
           ·have hq:((m:Int)+2==(T.size:Int))=false:=by rw[beq_eq_false_iff_ne];omega
            by_cases h5:5<dn
            ·have E:=hid (show cO sg (bG T.data.toList)=(0,20) by rw[EB.out,aK,PD.out,if_neg (by rintro⟨-,h⟩;omega)];rfl)
             have Ez:5<(T.size:Int)-((m:Int)+2):=by omega
             go_wp2_with (go_at_call 95;refine(aJ _ _).mono ?_;rintro e wz ⟨rfl,hz⟩;(have hz':=hz.symm);subst hz';clear hz)
             go_ret2
             exact⟨aZ (by rw[E.out]) (by rw[E.out]),hbl⟩
            ·have Ez:¬5<(T.size:Int)-((m:Int)+2):=by omega
             go_wp2_with (go_at_call 95;refine(aJ _ _).mono ?_;rintro e wz ⟨rfl,hz⟩;(have hz':=hz.symm);subst hz';clear hz)
             go_loop [5,10] (λav pv=>∃q:Nat,m+2<=q/\q<=T.size/\av=.int .i64 q/\pv=.int .i64 ((au (seg T (m+2) q):Nat):Int)/\(seg T (m+2) q).all bI=true) (λav _=>T.size-(intOf av).toNat)
             case atStart=>exact⟨m+2,aH _,by omega,by go_num,by rw[eO];rfl,by rw[eO];rfl⟩
             case round=>
              obtain⟨q,hq1,hq2,rfl,rfl,hall⟩:=hrel
              have hsm:=jN T (m+2) q hall (by rw[fB T (m+2) q hq1 hq2];omega)
              by_cases hlt:q<T.size
              ·cases hd:bI T[q] with
               | false=>
                have E:=hid (show cO sg (bG T.data.toList)=(0,20) by rw[EB.out,aK,PD.out,lZ T (m+2) q hq1 hlt hd,if_neg (by rintro⟨h,-⟩;cases h)];rfl)
                rw[uO] at hd
                have hd2:decide ((T[q].toNat:Int)<48)=true\/decide ((T[q].toNat:Int)<48)=false/\decide (57<(T[q].toNat:Int))=true:=by
                 cases h1:decide ((T[q].toNat:Int)<48) with
                 | true=>exact Or.inl rfl
                 | false=>exact Or.inr ⟨rfl,by rw[h1] at hd;simpa using hd⟩
                clear hd hall
                rcases hd2 with g1|⟨g1,g2⟩
                ·go_wp2_with (go_at_call 95;refine(aJ _ _).mono ?_;rintro e wz ⟨rfl,hz⟩;(have hz':=hz.symm);subst hz';clear hz)
                 go_ret2
                 exact⟨aZ (by rw[E.out]) (by rw[E.out]),hbl⟩
                ·go_wp2_with (go_at_call 95;refine(aJ _ _).mono ?_;rintro e wz ⟨rfl,hz⟩;(have hz':=hz.symm);subst hz';clear hz)
                 go_ret2
                 exact⟨aZ (by rw[E.out]) (by rw[E.out]),hbl⟩
               | true=>
                have dd:=of_decide_eq_true hd
                have R2:=hid (l5 T (m+2) q hq1 hlt hd hall)
                have R3:=hid (show ((au (seg T (m+2) (q+1)):Nat):Int)=10*((au (seg T (m+2) q):Nat):Int)+((T[q].toNat:Int)-48) by rw[lY T (m+2) q hq1 hlt];omega)
                have g1:decide ((T[q].toNat:Int)<48)=false:=decide_eq_false (by omega)
                have g2:decide (57<(T[q].toNat:Int))=false:=decide_eq_false (by omega)
                have e1:=mK T[q] dd
                have d0':=dd.1
                have d1':=dd.2
                have v1:((au (seg T (m+2) q):Nat):Int)<100000:=by omega
                have v0:(0:Int)<=((au (seg T (m+2) q):Nat):Int):=by omega
                generalize ((au (seg T (m+2) q):Nat):Int)=vv at *
                clear hd dd hall hsm
                go_wp2_with (go_at_call 95;refine(aJ _ _).mono ?_;rintro e wz ⟨rfl,hz⟩;(have hz':=hz.symm);subst hz';clear hz)
                go_round
                case rel=>exact⟨q+1,by omega,hlt,by go_num,by rw[R3.out],R2.out⟩
                case measure=>simp[intOf];omega
              ·have hkk:q=T.size:=by omega
               have ku:seg T (m+2) q=T.data.toList.drop (m+2):=by rw[hkk];exact l7 T _
               rw[ku] at hall hsm ⊢
               have hnn:fP (T.data.toList.drop (m+2))=true:=by
                unfold fP
                rw[hall]
                cases hx:T.data.toList.drop (m+2) with
                | nil=>rw[hx] at hdl;exact absurd hdl.symm hz0
                | cons c r=>rfl
               have E:=hid (show cO sg (bG T.data.toList)=sO sg (bH (dF (bitsOf (seg T 2 k)++bitsOf (seg T (k+1) m))) (-((au (T.data.toList.drop (m+2)):Nat):Int)-4*(((m:Int)-((k:Int)+1)):Int))) by
                rw[show (m:Int)-((k:Int)+1)=((m-(k+1):Nat):Int) by omega]
                rw[EB.out,aK,PD.out,if_pos ⟨hnn,by omega⟩,VB.out]
                exact kR _ _ _)
               have v1:((au (T.data.toList.drop (m+2)):Nat):Int)<100000:=by omega
               have v0:(0:Int)<=((au (T.data.toList.drop (m+2)):Nat):Int):=by omega
               generalize hpp:((au (T.data.toList.drop (m+2)):Nat):Int)=pp at *
               have cx:=iP g (4*(k-2)+4*(m-(k+1))) cap (bitsOf (seg T 2 k)++bitsOf (seg T (k+1) m)) sg (-pp-4*((m:Int)-((k:Int)+1))) wr xW.out (by omega) HCAP.out.1 HCAP.out.2 (by omega) (by omega) hsg
               rw[kQ] at cx
               obtain⟨r1,hr1⟩:∃r1,(sO sg (bH (dF (bitsOf (seg T 2 k)++bitsOf (seg T (k+1) m))) (-pp-4*((m:Int)-((k:Int)+1))))).1=r1:=⟨_,rfl⟩
               obtain⟨r2,hr2⟩:∃r2,(sO sg (bH (dF (bitsOf (seg T 2 k)++bitsOf (seg T (k+1) m))) (-pp-4*((m:Int)-((k:Int)+1))))).2=r2:=⟨_,rfl⟩
               rw[hr1,hr2] at cx
               have E1:=hid (show r1=(cO sg (bG T.data.toList)).1 by rw[E.out,<- hr1])
               have E2:=hid (show r2=(cO sg (bG T.data.toList)).2 by rw[E.out,<- hr2])
               clear hr1 hr2 E
               rw[Nc.out] at cx
               clear hall hsm ku hnn hpp hlt
               have Ag:¬ (q:Int)<(T.size:Int):=by omega
               go_wp2_with (first|(go_at_call 95;refine(aJ _ _).mono ?_;rintro e wz ⟨rfl,hz⟩;(have hz':=hz.symm);subst hz';clear hz)|(go_at_call 97;(with_reducible refine cx.mono ?_);rintro e wz ⟨rfl,hz⟩;(have hz':=hz.symm);subst hz';clear hz))
               go_ret2
               exact⟨aZ E1.out E2.out,hbl⟩
          ·by_cases qz:T[m+1]=43
           ·have LC:((T[m+1].toNat:Int)!=43)=false:=by rw[qz];rfl
            have Rh:((T[m+1].toNat:Int)==45)=false:=by rw[qz];rfl
            have PD:=hid (oW T m hA2 hP (Or.inl qz))
            rw[if_neg hM] at PD
            clear hP hM qz
            obtain⟨dn,hdn⟩:∃dn,T.size-(m+2)=dn:=⟨_,rfl⟩
            have hdl:(T.data.toList.drop (m+2)).length=dn:=by rw[List.length_drop,size_list];exact hdn
            rw[hdl] at PD
            by_cases hz0:dn=0
            ·have E:=hid (show cO sg (bG T.data.toList)=(0,20) by
              have hnil:T.data.toList.drop (m+2)=[]:=ay (by omega)
              have:fP (T.data.toList.drop (m+2))=false:=by rw[hnil];rfl
              rw[EB.out,aK,PD.out,this,if_neg (by rintro⟨h,-⟩;cases h)];rfl)
             have hq:((m:Int)+2==(T.size:Int))=true:=by rw[beq_iff_eq];omega
             go_wp2_with (go_at_call 95;refine(aJ _ _).mono ?_;rintro e wz ⟨rfl,hz⟩;(have hz':=hz.symm);subst hz';clear hz)
             go_ret2
             exact⟨aZ (by rw[E.out]) (by rw[E.out]),hbl⟩
            ·have hq:((m:Int)+2==(T.size:Int))=false:=by rw[beq_eq_false_iff_ne];omega
             by_cases h5:5<dn
             ·have E:=hid (show cO sg (bG T.data.toList)=(0,20) by rw[EB.out,aK,PD.out,if_neg (by rintro⟨-,h⟩;omega)];rfl)
              have Ez:5<(T.size:Int)-((m:Int)+2):=by omega
              go_wp2_with (go_at_call 95;refine(aJ _ _).mono ?_;rintro e wz ⟨rfl,hz⟩;(have hz':=hz.symm);subst hz';clear hz)
              go_ret2
              exact⟨aZ (by rw[E.out]) (by rw[E.out]),hbl⟩
             ·have Ez:¬5<(T.size:Int)-((m:Int)+2):=by omega
              go_wp2_with (go_at_call 95;refine(aJ _ _).mono ?_;rintro e wz ⟨rfl,hz⟩;(have hz':=hz.symm);subst hz';clear hz)
              go_loop [5,10] (λav pv=>∃q:Nat,m+2<=q/\q<=T.size/\av=.int .i64 q/\pv=.int .i64 ((au (seg T (m+2) q):Nat):Int)/\(seg T (m+2) q).all bI=true) (λav _=>T.size-(intOf av).toNat)
              case atStart=>exact⟨m+2,aH _,by omega,by go_num,by rw[eO];rfl,by rw[eO];rfl⟩
              case round=>
               obtain⟨q,hq1,hq2,rfl,rfl,hall⟩:=hrel
               have hsm:=jN T (m+2) q hall (by rw[fB T (m+2) q hq1 hq2];omega)
               by_cases hlt:q<T.size
               ·cases hd:bI T[q] with
                | false=>
                 have E:=hid (show cO sg (bG T.data.toList)=(0,20) by rw[EB.out,aK,PD.out,lZ T (m+2) q hq1 hlt hd,if_neg (by rintro⟨h,-⟩;cases h)];rfl)
                 rw[uO] at hd
                 have hd2:decide ((T[q].toNat:Int)<48)=true\/decide ((T[q].toNat:Int)<48)=false/\decide (57<(T[q].toNat:Int))=true:=by
                  cases h1:decide ((T[q].toNat:Int)<48) with
                  | true=>exact Or.inl rfl
                  | false=>exact Or.inr ⟨rfl,by rw[h1] at hd;simpa using hd⟩
                 clear hd hall
                 rcases hd2 with g1|⟨g1,g2⟩
                 ·go_wp2_with (go_at_call 95;refine(aJ _ _).mono ?_;rintro e wz ⟨rfl,hz⟩;(have hz':=hz.symm);subst hz';clear hz)
                  go_ret2
                  exact⟨aZ (by rw[E.out]) (by rw[E.out]),hbl⟩
                 ·go_wp2_with (go_at_call 95;refine(aJ _ _).mono ?_;rintro e wz ⟨rfl,hz⟩;(have hz':=hz.symm);subst hz';clear hz)
                  go_ret2
                  exact⟨aZ (by rw[E.out]) (by rw[E.out]),hbl⟩
                | true=>
                 have dd:=of_decide_eq_true hd
                 have R2:=hid (l5 T (m+2) q hq1 hlt hd hall)
                 have R3:=hid (show ((au (seg T (m+2) (q+1)):Nat):Int)=10*((au (seg T (m+2) q):Nat):Int)+((T[q].toNat:Int)-48) by rw[lY T (m+2) q hq1 hlt];omega)
                 have g1:decide ((T[q].toNat:Int)<48)=false:=decide_eq_false (by omega)
                 have g2:decide (57<(T[q].toNat:Int))=false:=decide_eq_false (by omega)
                 have e1:=mK T[q] dd
                 have d0':=dd.1
                 have d1':=dd.2
                 have v1:((au (seg T (m+2) q):Nat):Int)<100000:=by omega
                 have v0:(0:Int)<=((au (seg T (m+2) q):Nat):Int):=by omega
                 generalize ((au (seg T (m+2) q):Nat):Int)=vv at *
                 clear hd dd hall hsm
                 go_wp2_with (go_at_call 95;refine(aJ _ _).mono ?_;rintro e wz ⟨rfl,hz⟩;(have hz':=hz.symm);subst hz';clear hz)
                 go_round
                 case rel=>exact⟨q+1,by omega,hlt,by go_num,by rw[R3.out],R2.out⟩
                 case measure=>simp[intOf];omega
               ·have hkk:q=T.size:=by omega
                have ku:seg T (m+2) q=T.data.toList.drop (m+2):=by rw[hkk];exact l7 T _
                rw[ku] at hall hsm ⊢
                have hnn:fP (T.data.toList.drop (m+2))=true:=by
                 unfold fP
                 rw[hall]
                 cases hx:T.data.toList.drop (m+2) with
                 | nil=>rw[hx] at hdl;exact absurd hdl.symm hz0
                 | cons c r=>rfl
                have E:=hid (show cO sg (bG T.data.toList)=sO sg (bH (dF (bitsOf (seg T 2 k)++bitsOf (seg T (k+1) m))) (((au (T.data.toList.drop (m+2)):Nat):Int)-4*(((m:Int)-((k:Int)+1)):Int))) by
                 rw[show (m:Int)-((k:Int)+1)=((m-(k+1):Nat):Int) by omega]
                 rw[EB.out,aK,PD.out,if_pos ⟨hnn,by omega⟩,VB.out]
                 exact kR _ _ _)
                have v1:((au (T.data.toList.drop (m+2)):Nat):Int)<100000:=by omega
                have v0:(0:Int)<=((au (T.data.toList.drop (m+2)):Nat):Int):=by omega
                generalize hpp:((au (T.data.toList.drop (m+2)):Nat):Int)=pp at *
                have cx:=iP g (4*(k-2)+4*(m-(k+1))) cap (bitsOf (seg T 2 k)++bitsOf (seg T (k+1) m)) sg (pp-4*((m:Int)-((k:Int)+1))) wr xW.out (by omega) HCAP.out.1 HCAP.out.2 (by omega) (by omega) hsg
                rw[kQ] at cx
                obtain⟨r1,hr1⟩:∃r1,(sO sg (bH (dF (bitsOf (seg T 2 k)++bitsOf (seg T (k+1) m))) (pp-4*((m:Int)-((k:Int)+1))))).1=r1:=⟨_,rfl⟩
                obtain⟨r2,hr2⟩:∃r2,(sO sg (bH (dF (bitsOf (seg T 2 k)++bitsOf (seg T (k+1) m))) (pp-4*((m:Int)-((k:Int)+1))))).2=r2:=⟨_,rfl⟩
                rw[hr1,hr2] at cx
                have E1:=hid (show r1=(cO sg (bG T.data.toList)).1 by rw[E.out,<- hr1])
                have E2:=hid (show r2=(cO sg (bG T.data.toList)).2 by rw[E.out,<- hr2])
                clear hr1 hr2 E
                rw[Nc.out] at cx
                clear hall hsm ku hnn hpp hlt
                have Ag:¬ (q:Int)<(T.size:Int):=by omega
                go_wp2_with (first|(go_at_call 95;refine(aJ _ _).mono ?_;rintro e wz ⟨rfl,hz⟩;(have hz':=hz.symm);subst hz';clear hz)|(go_at_call 97;(with_reducible refine cx.mono ?_);rintro e wz ⟨rfl,hz⟩;(have hz':=hz.symm);subst hz';clear hz))
                go_ret2
                exact⟨aZ E1.out E2.out,hbl⟩
           ·have LC:((T[m+1].toNat:Int)!=43)=true:=by rw[show (43:Int)=((43:UInt8).toNat:Int) from rfl,bne,iw,decide_eq_false qz];rfl
            have ES:((T[m+1].toNat:Int)!=45)=true:=by rw[show (45:Int)=((45:UInt8).toNat:Int) from rfl,bne,iw,decide_eq_false hM];rfl
            have E:=hid (show cO sg (bG T.data.toList)=(0,20) by rw[EB.out,aK,nU T m hA2 qz hM];rfl)
            clear hP hM qz
            go_wp2_with (go_at_call 95;refine(aJ _ _).mono ?_;rintro e wz ⟨rfl,hz⟩;(have hz':=hz.symm);subst hz';clear hz)
            go_ret2
            exact⟨aZ (by rw[E.out]) (by rw[E.out]),hbl⟩
         ·have qP:((T[m].toNat:Int)!=112)=true:=by rw[show (112:Int)=((112:UInt8).toNat:Int) from rfl,bne,iw,decide_eq_false hP];rfl
          have E:=hid (show cO sg (bG T.data.toList)=(0,20) by rw[EB.out,aK,vH T m hA2 hP];rfl)
          clear hP
          go_wp2_with (go_at_call 95;refine(aJ _ _).mono ?_;rintro e wz ⟨rfl,hz⟩;(have hz':=hz.symm);subst hz';clear hz)
          go_ret2
          exact⟨aZ (by rw[E.out]) (by rw[E.out]),hbl⟩
       ·have E:=hid (show cO sg (bG T.data.toList)=(0,20) by rw[EB.out,aK,jR T m (by omega)];rfl)
        go_wp2_with (go_at_call 95;refine(aJ _ _).mono ?_;rintro e wz ⟨rfl,hz⟩;(have hz':=hz.symm);subst hz';clear hz)
        go_ret2
        exact⟨aZ (by rw[E.out]) (by rw[E.out]),hbl⟩
end Go.Proofs.YtgchnkgolclmgaaGreatDoor.W

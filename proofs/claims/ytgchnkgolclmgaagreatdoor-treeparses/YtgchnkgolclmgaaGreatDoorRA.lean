import Derived.Test.YtgchnkgolclmgaaGreatDoorKY
import Derived.Test.YtgchnkgolclmgaaGreatDoorJR
import Derived.Test.YtgchnkgolclmgaaGreatDoorJE
import Derived.Test.YtgchnkgolclmgaaGreatDoorJF
open List renaming length_cons → ay, length_append → bY, length_drop → dI, mem_cons → gL, getD_eq_getElem?_getD → jl, takeWhile_cons → lH, drop_eq_getElem_cons → qV, not_mem_nil → BR, getElem_drop → BQ, take_succ_eq_append_getElem → Dp, getElem?_eq_getElem → Gq
open Nat renaming le_refl → bO, pow_le_pow_right → dR, zero_le → gy
open Bool renaming eq_iff_iff → dQ
open Go.IntKind renaming u64 → aL, wrap_u64 → aY, i64 → eU, wrap_i64 → gI
open And renaming intro → aH
open Go.Proofs.Tryz
set_option maxRecDepth 1000000
set_option maxHeartbeats 8000000
namespace Go.Proofs.YtgchnkgolclmgaaGreatDoor.W
open Go.ChangeShapes Go.WideShapes Go.RowKit Go.Shelf
set_option linter.unusedVariables false
set_option linter.unusedSimpArgs false
def jJ(c:UInt8):Bool:=decide (97<=c.toNat/\c.toNat<=122)||decide (c.toNat=95)
theorem yT(c:UInt8)(w:World):Calls prog 36 #[.int .u8 c.toNat] w λe w'=>e=.returned (.bool (jJ c))/\w'=w:=by
 unfold jJ
 go_enter func36,ntmps36
 go_wp2
 all_goals (go_ret;refine⟨jC ?_,rfl⟩;first|rfl|(rw[dQ];simp;done)|(rw[dQ];simp;omega))
theorem oV(c:UInt8)(w:World):Calls prog 38 #[.int .u8 c.toNat] w λe w'=>e=.returned (.bool (bI c))/\w'=w:=by
 go_enter func38,ntmps38
 go_wp2
 all_goals (go_ret;refine⟨jC ?_,rfl⟩;simp only[bI];rw[dQ];simp only[decide_eq_true_eq,Bool.false_eq_true,false_iff];omega)
theorem qp(c:UInt8):dO c=(jJ c||bI c):=by
 have e1:dO c=(decide (97<=c.toNat/\c.toNat<=122)||bI c||decide (c.toNat=95)):=by
  unfold dO
  rw[<- oK c 95 (by decide)];rfl
 rw[e1]
 unfold jJ
 cases bI c <;> simp
theorem IQ(c:UInt8)(w:World):Calls prog 66 #[.int .u8 c.toNat] w λe w'=>e=.returned (.bool (dO c))/\w'=w:=by
 have cs:=yT c
 have cd:=oV c
 rw[qp]
 generalize jJ c=a at *
 generalize bI c=b at *
 cases a <;> cases b
 all_goals (
  go_enter func66,ntmps66
  go_wp2_with ((with_reducible (apply Calls.mono;first|exact cs _|exact cd _));rintro e w' ⟨rfl,rfl⟩)
  go_ret
  exact⟨rfl,rfl⟩)
theorem EO(c:UInt8)(w:World):Calls prog 69 #[.int .u8 c.toNat] w λe w'=>e=.returned (.int .i64 (bT c))/\w'=w:=by
 have cd:=oV c
 have hlt:=c.toNat_lt
 unfold bT
 by_cases h1:48<=c.toNat/\c.toNat<=57
 ·have hd:bI c=true:=by unfold bI;exact decide_eq_true h1
  rw[hd] at cd
  rw[if_pos h1]
  have e1:IntKind.u8.wrap ((c.toNat:Int)-48)=(c.toNat:Int)-48:=by rw[IntKind.wrap_u8];omega
  have e2:eU.wrap ((c.toNat:Int)-48)=(c.toNat:Int)-48:=by rw[gI];omega
  clear h1 hd hlt
  go_enter func69,ntmps69
  go_wp2_with (go_at_call 38;(with_reducible refine(cd _).mono ?_);rintro e w' ⟨rfl,rfl⟩)
  go_ret
  exact⟨rfl,rfl⟩
 ·have hd:bI c=false:=by unfold bI;exact decide_eq_false h1
  rw[hd] at cd
  rw[if_neg h1]
  by_cases h2:97<=c.toNat/\c.toNat<=102
  ·rw[if_pos h2]
   have g1:(c.toNat:Int)≥97:=by omega
   have g2:(c.toNat:Int)<=102:=by omega
   have e1:IntKind.u8.wrap ((c.toNat:Int)-97)=(c.toNat:Int)-97:=by rw[IntKind.wrap_u8];omega
   have e2:eU.wrap ((c.toNat:Int)-97)=(c.toNat:Int)-97:=by rw[gI];omega
   have e3:eU.wrap ((c.toNat:Int)-97+10)=(c.toNat:Int)-87:=by rw[gI];omega
   clear h1 hd hlt h2
   go_enter func69,ntmps69
   go_wp2_with (go_at_call 38;(with_reducible refine(cd _).mono ?_);rintro e w' ⟨rfl,rfl⟩)
   go_ret
   exact⟨rfl,rfl⟩
  ·rw[if_neg h2]
   go_enter func69,ntmps69
   go_wp2_with (go_at_call 38;(with_reducible refine(cd _).mono ?_);rintro e w' ⟨rfl,rfl⟩)
   all_goals first|(go_ret;exact⟨rfl,rfl⟩)|(exfalso;omega)
theorem CW(s:ByteArray)(w:World):Calls prog 68 #[.string s] w λe w'=>e=.returned (.bool (decide (s.data.toList ∈ words)))/\w'=w:=by
 by_cases h:s.data.toList ∈ words
 ·rw[decide_eq_true h]
  unfold words at h
  simp only[gL,BR,or_false] at h
  rcases h with h|h|h|h|h|h|h|h|h|h|h|h|h|h|h|h|h
  all_goals (
   have hs:=d9 h
   subst hs
   go_enter func68,ntmps68
   go_wp2
   go_ret
   exact⟨rfl,rfl⟩)
 ·rw[decide_eq_false h]
  have ne:∀l ∈ words,(s.toList==l)=false:=by
   intro l hl
   rw[beq_eq_false_iff_ne,toList_eq]
   rintro rfl
   exact h hl
  have n2:=ne [102,110] (by decide)
  have n3:=ne [108,101,116] (by decide)
  have n4:=ne [105,102] (by decide)
  have n5:=ne [101,108,115,101] (by decide)
  have n6:=ne [119,104,105,108,101] (by decide)
  have n7:=ne [102,111,114] (by decide)
  have n8:=ne [105,110] (by decide)
  have n9:=ne [98,114,101,97,107] (by decide)
  have n10:=ne [99,111,110,116,105,110,117,101] (by decide)
  have n11:=ne [114,101,116,117,114,110] (by decide)
  have n12:=ne [111,117,116] (by decide)
  have n13:=ne [97,110,100] (by decide)
  have n14:=ne [111,114] (by decide)
  have n15:=ne [110,111,116] (by decide)
  have n16:=ne [116,114,117,101] (by decide)
  have n17:=ne [102,97,108,115,101] (by decide)
  have n18:=ne [110,105,108] (by decide)
  clear ne h
  go_enter func68,ntmps68
  go_wp2
  go_ret
  exact⟨rfl,rfl⟩
theorem Fy(s:ByteArray)(w:World):Calls prog 41 #[.string s] w λe w'=>e=.returned (.bool (decide (s.data.toList ∈ marks)))/\w'=w:=by
 by_cases h:s.data.toList ∈ marks
 ·rw[decide_eq_true h]
  unfold marks at h
  simp only[gL,BR,or_false] at h
  rcases h with h|h|h|h|h|h|h|h|h|h|h|h|h|h|h|h|h|h|h|h|h|h|h|h|h|h|h|h|h
  all_goals (
   have hs:=d9 h
   subst hs
   go_enter func41,ntmps41
   go_wp2
   go_ret
   exact⟨rfl,rfl⟩)
 ·rw[decide_eq_false h]
  have ne:∀l ∈ marks,(s.toList==l)=false:=by
   intro l hl
   rw[beq_eq_false_iff_ne,toList_eq]
   rintro rfl
   exact h hl
  have n0:=ne [61,61] (by decide)
  have n1:=ne [33,61] (by decide)
  have n2:=ne [60,61] (by decide)
  have n3:=ne [62,61] (by decide)
  have n4:=ne [60,60] (by decide)
  have n5:=ne [62,62] (by decide)
  have n6:=ne [47,47] (by decide)
  have n7:=ne [46,46] (by decide)
  have n8:=ne [43] (by decide)
  have n9:=ne [45] (by decide)
  have n10:=ne [42] (by decide)
  have n11:=ne [47] (by decide)
  have n12:=ne [37] (by decide)
  have n13:=ne [38] (by decide)
  have n14:=ne [124] (by decide)
  have n15:=ne [94] (by decide)
  have n16:=ne [126] (by decide)
  have n17:=ne [60] (by decide)
  have n18:=ne [62] (by decide)
  have n19:=ne [61] (by decide)
  have n20:=ne [40] (by decide)
  have n21:=ne [41] (by decide)
  have n22:=ne [123] (by decide)
  have n23:=ne [125] (by decide)
  have n24:=ne [91] (by decide)
  have n25:=ne [93] (by decide)
  have n26:=ne [44] (by decide)
  have n27:=ne [59] (by decide)
  have n28:=ne [58] (by decide)
  clear ne h
  go_enter func41,ntmps41
  go_wp2
  go_ret
  exact⟨rfl,rfl⟩
def pV(r:List UInt8):Prop:=∀c,r.head? = some c->c≠35/\iC c=false
theorem Fu(l:List UInt8)(k j:Nat)(c:UInt8)(hd:l.drop k=c::l.drop (k+1))(hc:c=35)(h:runN iE (l.drop k)+k=j):T (l.drop k) k=T (l.drop j) j:=by
 subst hc
 rw[hd,dP (by decide)] at h
 rw[hd,N8,List.drop_drop]
 have e:k+1+runN iE (l.drop (k+1))=j:=by omega
 have e2:k+(runN iE (l.drop (k+1))+1)=j:=by omega
 rw[e,e2]
theorem CY(s:ByteArray)(hs:s.size<=1000000)(a:Nat)(ha:a<=s.size)(w:World):Calls prog 24 #[.string s,.int .i64 a] w λe w'=>w'=w/\∃k:Nat,e=.returned (.int .i64 k)/\a<=k/\k<=s.size/\T (s.data.toList.drop a) a=T (s.data.toList.drop k) k/\pV (s.data.toList.drop k):=by
 have HS:=hid hs
 clear hs
 go_enter func24,ntmps24
 go_wp2_with fail
 go_loop [1] (λi=>∃k:Nat,i=.int .i64 k/\a<=k/\k<=s.size/\T (s.data.toList.drop a) a=T (s.data.toList.drop k) k) (λi=>s.size-(intOf i).toNat)
 case atStart=>exact⟨a,rfl,bO _,ha,rfl⟩
 case round=>
  obtain⟨k,rfl,h1,h2,h3⟩:=hrel
  by_cases c:k<s.size
  ·have c1:(k:Int)<(s.size:Int):=by omega
   have c0:(0:Int)<=(k:Int):=by omega
   have hd:=drop_cons s k c
   have e1:eU.wrap ((k:Int)+1)=((k+1:Nat):Int):=by have:=HS.out;rw[gI];omega
   have e2:wrap64 ((k:Int)+1)=((k+1:Nat):Int):=by have:=HS.out;unfold wrap64;omega
   have tb:iC s[k]=true->T (s[k]::s.data.toList.drop (k+1)) k=T (s.data.toList.drop (k+1)) (k+1):=λh'=>Pk s[k] (s.data.toList.drop (k+1)) k h'
   have bl:iC s[k]=(decide (s[k].toNat=32)||decide (s[k].toNat=9)||decide (s[k].toNat=10)):=by
    unfold iC
    rw[<- oK s[k] 32 (by decide),<- oK s[k] 9 (by decide),<- oK s[k] 10 (by decide)];rfl
   by_cases b:iC s[k]=true
   ·have fin:=hid (show T (s.data.toList.drop a) a=T (s.data.toList.drop (k+1)) (k+1) by rw[h3,hd,tb b])
    have b':s[k].toNat=32\/s[k].toNat=9\/s[k].toNat=10:=by rw[bl] at b;simpa [or_assoc] using b
    have HH:=hid (aH h1 c)
    clear tb bl hd h3 h1 h2 b
    rcases b' with b|b|b
    all_goals (
     go_wp2
     go_round
     case rel=>exact⟨k+1,by go_num,by have:=HH.out.1;omega,HH.out.2,fin.out⟩
     case measure=>have:=HH.out.2;simp[intOf];omega)
   ·have b0:iC s[k]=false:=by simpa using b
    have n1:¬s[k].toNat=32:=λe=>b (by rw[bl,e];rfl)
    have n2:¬s[k].toNat=9:=λe=>b (by rw[bl,e];rfl)
    have n3:¬s[k].toNat=10:=λe=>b (by rw[bl,e];rfl)
    clear tb bl b
    by_cases q:s[k].toNat=35
    ·have q':s[k]=35:=gQ q
     have HH:=hid (aH h1 (aH c h3))
     have HD:=hid hd
     have HQ:=hid q'
     have HLB:=hid (show iE s[k]=true by rw[q'];decide)
     clear h1 h3 hd q' h2 b0
     go_wp2_with fail
     go_loop [1] (λi=>∃j:Nat,i=.int .i64 j/\k<=j/\j<=s.size/\runN iE (s.data.toList.drop k)+k=runN iE (s.data.toList.drop j)+j) (λi=>s.size-(intOf i).toNat)
     case atStart=>exact⟨k,rfl,bO _,Nat.le_of_lt HH.out.2.1,rfl⟩
     case round=>
      obtain⟨j,rfl,g1,g2,g3⟩:=hrel
      by_cases cj:j<s.size
      ·have j1:(j:Int)<(s.size:Int):=by omega
       have j0:(0:Int)<=(j:Int):=by omega
       have hdj:=drop_cons s j cj
       have w1:eU.wrap ((j:Int)+1)=((j+1:Nat):Int):=by have:=HS.out;rw[gI];omega
       have w2:wrap64 ((j:Int)+1)=((j+1:Nat):Int):=by have:=HS.out;unfold wrap64;omega
       by_cases ln:s[j].toNat=10
       ·have l0:iE s[j]=false:=by rw[gQ ln];decide
        have hj:runN iE (s.data.toList.drop j)=0:=by rw[hdj];exact gM l0
        have fin:=hid (Fu s.data.toList k j _ HD.out HQ.out (by omega))
        have jk:k+1<=j:=by
         by_cases e:j=k
         ·subst e;exact absurd ln n3
         ·omega
        have HJ:=hid (aH jk g2)
        clear g1 g2 g3 hdj l0 hj jk
        go_wp2
        go_round
        case rel=>exact⟨j,rfl,by have:=HH.out.1;have:=HJ.out.1;omega,HJ.out.2,HH.out.2.2.trans fin.out⟩
        case measure=>have:=HJ.out;simp[intOf];omega
       ·have l1:iE s[j]=true:=by unfold iE;rw[bne_iff_ne];rintro e;rw[e] at ln;exact ln rfl
        have fin:=hid (show runN iE (s.data.toList.drop k)+k=runN iE (s.data.toList.drop (j+1))+(j+1) by rw[g3,hdj,dP l1];omega)
        have HJ:=hid (aH g1 cj)
        clear g1 g2 g3 hdj l1
        go_wp2
        go_round
        case rel=>exact⟨j+1,by go_num,by have:=HJ.out.1;omega,HJ.out.2,fin.out⟩
        case measure=>have:=HJ.out;simp[intOf];omega
      ·have j1:¬ (j:Int)<(s.size:Int):=by omega
       have hj:runN iE (s.data.toList.drop j)=0:=by rw[List.drop_eq_nil_of_le (by rw[size_list];omega)];rfl
       have fin:=hid (Fu s.data.toList k j _ HD.out HQ.out (by omega))
       have HJ:=hid (aH g2 cj)
       have jk:k+1<=j:=by have:=HH.out.2.1;omega
       have HJK:=hid jk
       clear g1 g2 g3 cj hj jk
       go_wp2
       go_round
       case rel=>exact⟨j,rfl,by have:=HH.out.1;have:=HJK.out;omega,HJ.out.1,HH.out.2.2.trans fin.out⟩
       case measure=>have:=HJ.out;have:=HJK.out;have:=HH.out.2.1;simp[intOf];omega
    ·have fin:=hid (show pV (s.data.toList.drop k) by
      intro d hdd
      rw[hd] at hdd
      injection hdd with hdd
      subst hdd
      exact⟨λe=>q (by rw[e];rfl),b0⟩)
     have HH:=hid (aH h1 (aH h2 h3))
     have m1:((s[k].toNat:Int)==32)=false:=by simp;omega
     have m2:((s[k].toNat:Int)==9)=false:=by simp;omega
     have m3:((s[k].toNat:Int)==10)=false:=by simp;omega
     have m4:((s[k].toNat:Int)==35)=false:=by simp;omega
     clear h1 h2 h3 hd b0 n1 n2 n3 q
     go_wp2
     go_ret
     exact⟨rfl,k,rfl,HH.out.1,HH.out.2.1,HH.out.2.2,fin.out⟩
  ·have c1:¬ (k:Int)<(s.size:Int):=by omega
   have fin:=hid (show pV (s.data.toList.drop k) by
    intro d hdd
    rw[List.drop_eq_nil_of_le (by rw[size_list];omega)] at hdd
    cases hdd)
   have HH:=hid (aH h1 (aH h2 h3))
   clear h1 h2 h3 c
   go_wp2
   go_ret
   exact⟨rfl,k,rfl,HH.out.1,HH.out.2.1,HH.out.2.2,fin.out⟩
open Go.ChangeShapes Go.WideShapes Go.RowKit
theorem JL(c:UInt8)(h:0<=bT c):sJ (bT c).toNat=c:=by
 have all:∀n:Fin 256,0<=bT (UInt8.ofNat n.val)->sJ (bT (UInt8.ofNat n.val)).toNat=UInt8.ofNat n.val:=by decide +kernel
 have:=all ⟨c.toNat,c.toNat_lt⟩
 simp only[UInt8.ofNat_toNat] at this
 exact this h
theorem PG(c:UInt8)(h:∀j,j<16->sJ j≠c):bT c = -1:=by
 obtain⟨r1,r2⟩:=fE c
 by_cases h0:0<=bT c
 ·exact absurd (JL c h0) (h _ (by omega))
 ·omega
theorem iw(c d:UInt8):((c.toNat:Int)==(d.toNat:Int))=decide (c=d):=by
 rw[dQ,beq_iff_eq,decide_eq_true_eq]
 constructor
 ·intro e
  exact UInt8.toNat_inj.1 (by omega)
 ·intro e;subst e;rfl
theorem aJ(c:UInt8)(w:World) :
  Calls prog 95 #[.int .u8 c.toNat] w λe w'=>e=.returned (.int .i64 (bT c))/\w'=w:=by
 go_enter func95,ntmps95
 go_wp2_with fail
 go_loop [3] (λi=>∃k:Nat,k<=16/\i=.int .i64 k/\∀j,j<k->sJ j≠c) (λi=>16-(intOf i).toNat)
 case atStart=>exact⟨0,gy _,rfl,by intro j hj;omega⟩
 case round=>
  obtain⟨k,hk,rfl,hn⟩:=hrel
  by_cases hlt:k<16
  ·have hx:=JM k hlt
   have hlt':(k:Int)<16:=by omega
   have hq:=iw (sJ k) c
   by_cases hc:sJ k=c
   ·have H:=hid (show bT c=k by rw[<- hc];exact JN k hlt)
    rw[decide_eq_true hc] at hq
    generalize sJ k=c' at *
    clear hn hc
    go_wp2_with fail
    go_ret
    exact⟨Fq H.out.symm,rfl⟩
   ·have H:=hid (show ∀j,j<k+1->sJ j≠c by
     intro j hj
     by_cases e:j=k
     ·rw[e];exact hc
     ·exact hn j (by omega))
    rw[decide_eq_false hc] at hq
    generalize sJ k=c' at *
    clear hn hc
    go_wp2_with fail
    go_round
    case rel=>exact⟨k+1,hlt,by go_num,H.out⟩
    case measure=>simp[intOf];omega
  ·have aAY:k=16:=by omega
   subst aAY
   have H:=hid (PG c hn)
   clear hn
   go_wp2_with fail
   go_ret
   exact⟨Fq H.out.symm,rfl⟩
theorem Tryz.V7:(prog.info? 3).map (λi=>(i.zero,i.size,i.bytes))=some (some (.int .i64 0),1,8):=by kernel_rfl
def lS(l:List Nat):List Value:=l.map λb:Nat=>Value.int .i64 (b:Int)
def Dh(d:Nat):List Nat:=[d/8,d/4%2,d/2%2,d%2]
theorem Lj(d:Nat)(h:d<16):∀b ∈ Dh d,b<=1:=by
 intro b hb
 simp only[Dh,gL,BR,or_false] at hb
 omega
theorem jO(B:Nat)(v:Value)(n d:Nat)(L:List Nat)(w:World)(hown:w.ownsRow B 3 1 v n (lS L))(hB:B<=w.heap.size)(hn:n<=300)(hd:d<16) :
  Calls prog 96 #[v,.int .i64 d] w λe w'=>∃v',e=.returned v'/\w'.ownsRow B 3 1 v' (n+4) (lS (L++Dh d))/\Below B w w':=by
 obtain⟨i0,hi,hz0,hz1,hz2⟩:=info_parts Tryz.V7
 have e1:(d:Int)/8=((d/8:Nat):Int):=by omega
 have e2:(d:Int)/4%2=((d/4%2:Nat):Int):=by omega
 have e3:(d:Int)/2%2=((d/2%2:Nat):Int):=by omega
 have e4:(d:Int)%2=((d%2:Nat):Int):=by omega
 have eL:lS (L++Dh d)=lS L++[.int .i64 ((d/8:Nat):Int),.int .i64 ((d/4%2:Nat):Int),.int .i64 ((d/2%2:Nat):Int),.int .i64 ((d%2:Nat):Int)]:=by unfold lS Dh;rw[List.map_append];rfl
 have HL:=hid eL
 have d0:(0:Int)<=(d:Int):=by omega
 have Dl:(d:Int)<16:=by omega
 generalize ((d/8:Nat):Int)=x1 at *
 generalize ((d/4%2:Nat):Int)=x2 at *
 generalize ((d/2%2:Nat):Int)=x3 at *
 generalize ((d%2:Nat):Int)=x4 at *
 clear eL
 go_enter func96,ntmps96
 go_wp2_with (at_builtin;refine wpList_append_own _ rfl _ _ 130 rfl B 3 i0 (.int .i64 0) 1 8 underlying130 hi hz0 hz1 hz2 rfl (by decide) _ _ _ rfl (hown.alloc _) ⟨_,0,none⟩ 4 4 [.int .i64 x1,.int .i64 x2,.int .i64 x3,.int .i64 x4] rfl rfl ?c1 ?c2 ?c3 ?c4 ?c5 ?_)
 case c1=>
  intro j u hj
  match j,hj with
  | 0,hj=>simp at hj;subst hj;simp[Addr.add]
  | 1,hj=>simp at hj;subst hj;simp[Addr.add]
  | 2,hj=>simp at hj;subst hj;simp[Addr.add]
  | 3,hj=>simp at hj;subst hj;simp[Addr.add]
 case c2=>
  intro u hu
  simp at hu
  rcases hu with rfl|rfl|rfl|rfl <;> rfl
 case c3=>unfold maxLen;omega
 case c4=>omega
 case c5=>simp;omega
 ·intro v' w1 hown' hgrow _
  have R2:Below B w w1:=((Below.refl B w).alloc hB _).grown hgrow (by simp;omega) (λg hg=>(hown.lt g hg).1)
  clear hgrow hown
  go_wp2
  go_ret
  exact⟨v',rfl,by rw[HL.out];exact hown',R2⟩
structure sV (w:World) (g:Nat) (off len:Nat) (l:List Nat):Prop where
 size:l.length=len
 bit:∀b ∈ l,b<=1
 cell:∀j,j<len->w.cell? ⟨g,off+j,none⟩=some (.int .i64 ((l.getD j 0:Nat):Int))
theorem sV.tail{w:World}{g off len b:Nat}{l:List Nat}(h:sV w g off len (b::l)):sV w g (off+1) (len-1) l:=by
 have hl:=h.size
 simp only[ay] at hl
 refine⟨by omega,λx hx=>h.bit x (by simp[hx]),λj hj=>?_⟩
 have:=h.cell (j+1) (by omega)
 rw[show off+1+j=off+(j+1) by omega,this]
 rfl
theorem sV.init{w:World}{g off len b:Nat}{l:List Nat}(h:sV w g off len (l++[b])):sV w g off (len-1) l:=by
 have hl:=h.size
 simp only[bY,ay,List.length_nil] at hl
 refine⟨by omega,λx hx=>h.bit x (by simp[hx]),λj hj=>?_⟩
 rw[h.cell j (by omega)]
 simp[jl,List.getElem?_append_left (show j<l.length by omega)]
def Wt(sg:Int)(o:Option Int):Value:=match o with|none=>.tuple #[.int .u64 0,.int .i64 21]|some a=>.tuple #[.int .u64 (sg+a),.int .i64 0]
theorem Gx(l:List Nat)(k:Nat)(h:k<l.length):dF (l.take (k+1))=2*dF (l.take k)+l.getD k 0:=by
 rw[Dp h,jw]
 simp[jl,Gq h]
theorem zZ(l:List Nat)(hb:∀b ∈ l,b<=1)(k:Nat)(h:l.length<=53):dF (l.take k)<9007199254740992:=by
 have h1:=F9 (l.take k) (λb hx=>hb b (List.mem_of_mem_take hx))
 have h2:2 ^ (l.take k).length<=2 ^ 53:=dR (by decide) (by rw[List.length_take];omega)
 have h3:(2:Nat) ^ 53=9007199254740992:=by decide
 omega
def je(high:Int):Int:=if high-52 < -1074 then -1074 else high-52
theorem FJ(N len:Nat)(low:Int)(hodd:N%2=1)(Vj:N.log2+1=len) :
  (53<len\/1023<low+len-1\/low < -1074->bH N low=none) /\
  (¬ (53<len\/1023<low+len-1\/low < -1074)->je (low+len-1)<=low/\N*2 ^ (low-je (low+len-1)).toNat<9007199254740992 /\
   (low+len-1 < -1022->bH N low=some ((N*2 ^ (low-je (low+len-1)).toNat:Nat):Int)) /\
   (¬low+len-1 < -1022->4503599627370496<=N*2 ^ (low-je (low+len-1)).toNat/\bH N low=some ((low+len-1+1023)*4503599627370496+(((N*2 ^ (low-je (low+len-1)).toNat:Nat):Int)-4503599627370496)))):=by
 have ex:=JY N low hodd
 have hn0:N≠0:=by omega
 obtain⟨l1,l2⟩:=lC hn0
 constructor
 ·intro h
  rw[ex,if_pos (by omega)]
 ·intro h
  have hc:¬ (52<N.log2\/low < -1074\/1023<low+N.log2):=by omega
  rw[ex,if_neg hc]
  have SS:N*2 ^ (low-je (low+len-1)).toNat<2 ^ (N.log2+1)*2 ^ (low-je (low+len-1)).toNat:=Nat.mul_lt_mul_of_pos_right l2 (Nat.two_pow_pos _)
  rw[<- Nat.pow_add] at SS
  have h53:(2:Nat) ^ 53=9007199254740992:=by decide
  by_cases hh:low+len-1 < -1022
  ·have hl:je (low+len-1) = -1074:=by
    unfold je
    by_cases q:low+(len:Int)-1-52 < -1074
    ·rw[if_pos q]
    ·rw[if_neg q];omega
   rw[hl] at SS ⊢
   have e1:low - -1074=low+1074:=by omega
   rw[e1] at SS ⊢
   have le2:2 ^ (N.log2+1+(low+1074).toNat)<=2 ^ 53:=dR (by decide) (by omega)
   refine⟨by omega,by omega,λ_=>?_,λg=>absurd hh g⟩
   rw[if_pos (by omega)]
  ·have hl:je (low+len-1)=low+len-1-52:=by
    unfold je
    rw[if_neg (by omega)]
   rw[hl] at SS ⊢
   have e1:(low-(low+(len:Int)-1-52)).toNat=52-N.log2:=by omega
   rw[e1] at SS ⊢
   rw[show N.log2+1+(52-N.log2)=53 by omega,h53] at SS
   have ge:2 ^ N.log2*2 ^ (52-N.log2)<=N*2 ^ (52-N.log2):=Nat.mul_le_mul_right _ l1
   rw[<- Nat.pow_add,show N.log2+(52-N.log2)=52 by omega] at ge
   have h52:(2:Nat) ^ 52=4503599627370496:=by decide
   rw[h52] at ge
   refine⟨by omega,SS,λg=>absurd g hh,λ_=>⟨ge,?_⟩⟩
   rw[if_neg (by omega)]
   congr 1
   have e2:((low+(N.log2:Int)+1023).toNat:Int)=low+N.log2+1023:=by omega
   omega
theorem iP(g n cap:Nat)(L:List Nat)(sg low:Int)(w:World)(hsub:sV w g 0 n L)(hn:n<=300)(hcap:n<=cap)(hcap2:cap<=maxLen)(l0:-200000<=low)(l1:low<=200000)(hsg:sg=0\/sg=9223372036854775808) :
  Calls prog 97 #[.int .u64 sg,.slice (some ⟨g,0,none⟩) n cap,.int .i64 low] w λe w'=>e=.returned (Wt sg (bH (dF L) low))/\w'=w:=by
 unfold maxLen at hcap2
 have sg0:0<=sg:=by rcases hsg with rfl|rfl <;> omega
 have sg1:sg<=9223372036854775808:=by rcases hsg with rfl|rfl <;> omega
 go_enter func97,ntmps97
 go_wp2_with fail
 go_loop [1] (λv=>∃ (off len c:Nat) (l:List Nat),v=.slice (some ⟨g,off,none⟩) len c/\len<=c/\c<=cap/\len<=n/\sV w g off len l/\dF l=dF L) (λv=>lenOf v)
 case atStart=>exact⟨0,n,cap,L,rfl,hcap,bO _,bO _,hsub,rfl⟩
 case round=>
  obtain⟨off,len1,c,l,rfl,hc1,hc2,hln,hs,hv⟩:=hrel
  cases l with
  | nil=>
   have hz:len1=0:=hs.size.symm
   have E:=hid (show bH (dF L) low=some 0 by rw[<- hv];show bH 0 low=some 0;unfold bH;rw[if_pos rfl])
   subst hz
   clear hs hv
   go_wp2_with fail
   refine wp_loop_rounds 1 ?_
   rw[rounds_succ]
   go_wp2_with fail
   go_ret2
   exact⟨by rw[E.out];exact aZ (Int.add_zero sg).symm rfl,rfl⟩
  | cons b t=>
   have hl1:t.length+1=len1:=hs.size
   have s0:=hs.cell 0 (by omega)
   rw[Nat.add_zero] at s0
   have s0':w.cell? ⟨g,off,none⟩=some (.int .i64 ((b:Nat):Int)):=s0
   have hb1:=hs.bit b (by simp)
   clear s0
   by_cases hb:b=0
   ·subst hb
    have HS:=hid hs.tail
    have HV:=hid (show dF t=dF L by rw[<- hv,Bc])
    have hlen:(0:Int)<(len1:Int):=by omega
    clear hs hv
    by_cases hc:c=1
    ·have ht:t=[]:=List.eq_nil_of_length_eq_zero (by omega)
     have h11:len1=1:=by omega
     subst hc h11
     go_wp2_with fail
     go_round
     case rel=>exact⟨off,0,0,[],by first|rfl|simp,by omega,by omega,by omega,⟨rfl,by simp,λj hj=>by omega⟩,by rw[<- HV.out,ht]⟩
     case measure=>simp[lenOf]
    ·go_wp2_with fail
     go_round
     case rel=>exact⟨off+1,len1-1,c-1,t,by first|rfl|simp,by omega,by omega,by omega,HS.out,HV.out⟩
     case measure=>simp[lenOf];omega
   ·have hb':b=1:=by omega
    subst hb'
    have HS:=hid hs
    have HV:=hid (show bH (dF (1::t)) low=bH (dF L) low by rw[hv])
    have hlen:(0:Int)<(len1:Int):=by omega
    clear hs hv hb hb1
    go_wp2_with fail
    go_loop [1,2] (λv lv=>∃ (len:Nat) (jo:Int) (t2:List Nat),v=.slice (some ⟨g,off,none⟩) len c/\lv=.int .i64 jo/\low<=jo/\jo<=low+(len1:Int)-len/\len<=len1/\sV w g off len (1::t2)/\bH (dF (1::t2)) jo=bH (dF L) low) (λv _=>lenOf v)
    case atStart=>exact⟨len1,low,t,rfl,rfl,by omega,by omega,bO _,HS.out,HV.out⟩
    case round=>
     obtain⟨len,jo,t2,rfl,rfl,lw0,lw1,lw2,hs2,he⟩:=hrel
     have hl2:t2.length+1=len:=hs2.size
     have hsl:=hs2.cell (len-1) (by omega)
     obtain⟨l3,bl,hl3⟩:∃l3 bl,1::t2=l3++[bl]:=⟨_,_,(List.dropLast_concat_getLast (by simp)).symm⟩
     have Oz:l3.length=len-1:=by
      have:=congrArg List.length hl3
      simp only[ay,bY,List.length_nil] at this
      omega
     have hgl:(1::t2).getD (len-1) 0=bl:=by rw[hl3,<- Oz];simp[jl]
     rw[hgl] at hsl
     have hadd:off+(len-1)=off+(len-1):=rfl
     have hbl:=hs2.bit bl (by rw[hl3];simp)
     have hpos:(0:Int)<(len:Int):=by omega
     have hidx:((len:Int)-1).toNat=len-1:=by omega
     have HS2:=hid hs2
     have XJ:=hid he
     clear hs2 he hadd hgl
     by_cases hb0:bl=0
     ·subst hb0
      cases l3 with
      | nil=>
       have h31:(1:Nat)::t2=[0]:=hl3
       injection h31 with h32 _
       exact absurd h32 (by decide)
      | cons x l4=>
       have hx:x=1:=by
        have h31:(1:Nat)::t2=x::(l4++[0]):=hl3
        injection h31 with h32 _
        exact h32.symm
       subst hx
       have hnew:=hid (show sV w g off (len-1) (1::l4) by
        have:=HS2.out
        rw[hl3] at this
        exact this.init)
       have hval:=hid (show bH (dF (1::l4)) (jo+1)=bH (dF L) low by
        rw[<- XJ.out,hl3,jw,Nat.add_zero,FL])
       have ll4:1<len:=by simp only[ay] at Oz;omega
       have lb:jo+1<=300000:=by omega
       have lb0:-300000<=jo:=by omega
       clear hl3 Oz
       go_wp2_with fail
       go_round
       case rel=>exact⟨len-1,jo+1,l4,by go_num,by go_num,by omega,by omega,by omega,hnew.out,hval.out⟩
       case measure=>simp[lenOf];omega
     ·have hb1:bl=1:=by omega
      subst hb1
      have hodd:dF (1::t2)%2=1:=by rw[hl3,jw];omega
      have Vj:=(KH t2 (λx hx=>HS2.out.bit x (by simp[hx]))).2
      obtain⟨T1,T2⟩:=FJ (dF (1::t2)) len jo hodd (by omega)
      have HE:=hid (show bH (dF (1::t2)) jo=bH (dF L) low from XJ.out)
      have ll:(len:Int)<=300:=by omega
      have lb:jo<=300000:=by omega
      have lb0:-300000<=jo:=by omega
      clear hb0 hbl hl3 Oz hodd Vj XJ
      obtain⟨high,hhigh⟩:∃high,jo+(len:Int)-1=high:=⟨_,rfl⟩
      rw[hhigh] at T1 T2
      by_cases hx:53<len\/1023<high\/jo < -1074
      ·have E:=hid (show bH (dF L) low=none by rw[<- HE.out];exact T1 hx)
       clear T1 T2
       have hx2:53<(len:Int)\/¬53<(len:Int)/\1023<high\/¬53<(len:Int)/\¬1023<high/\jo < -1074:=by omega
       clear hx
       rcases hx2 with hx|⟨hx,hx3⟩|⟨hx,hx3,hx4⟩
       ·go_wp2_with fail
        go_ret2
        exact⟨by rw[E.out];rfl,rfl⟩
       ·go_wp2_with fail
        go_ret2
        exact⟨by rw[E.out];rfl,rfl⟩
       ·go_wp2_with fail
        go_ret2
        exact⟨by rw[E.out];rfl,rfl⟩
      ·obtain⟨q1,q2,q3,q4⟩:=T2 hx
       have hx1:¬53<(len:Int):=by omega
       have hx3:¬1023<high:=by omega
       have hx4:¬jo < -1074:=by omega
       obtain⟨least,FB⟩:∃least,je high=least:=⟨_,rfl⟩
       rw[FB] at q1 q2 q3 q4
       have LE:=hid FB
       obtain⟨N,hNN⟩:∃N,dF (1::t2)=N:=⟨_,rfl⟩
       have UF:=hid hNN
       rw[hNN] at q2 q3 q4 HE
       obtain⟨K,hK⟩:∃K,(jo-least).toNat=K:=⟨_,rfl⟩
       rw[hK] at q2 q3 q4
       have KD:=hid (show jo-(K:Int)=least/\-1074<=jo/\jo<=1023+300 by
        have:(K:Int)=jo-least:=by omega
        omega)
       have KB:=hid q2
       have T3:=hid q3
       have T4:=hid q4
       have hs2:=HS2.out
       generalize aAW:(1::t2:List Nat)=l2 at *
       clear T1 T2 q1 q2 q3 q4 hx FB hNN hK aAW HS2
       go_wp2_with fail
       go_loop [9,10] (λnv iv=>∃k:Nat,k<=len/\iv=.int .i64 k/\nv=.int .u64 ((dF (l2.take k):Nat):Int)) (λ_ iv=>len-(intOf iv).toNat)
       case atStart=>exact⟨0,gy _,rfl,rfl⟩
       case round=>
        obtain⟨k,hk,rfl,rfl⟩:=hrel
        have QV:=zZ l2 hs2.bit k (by rw[hs2.size];omega)
        by_cases hkl:k<len
        ·have st:=Gx l2 k (by rw[hs2.size];exact hkl)
         have hcell:=hs2.cell k hkl
         have hb1:l2.getD k 0<=1:=by
          rw[jl,Gq (by rw[hs2.size];exact hkl)]
          exact hs2.bit _ (List.getElem_mem _)
         have HST:=hid (show ((dF (l2.take (k+1)):Nat):Int)=2*((dF (l2.take k):Nat):Int)+((l2.getD k 0:Nat):Int) by rw[st];omega)
         have b0:(0:Int)<=((l2.getD k 0:Nat):Int):=by omega
         have b1:((l2.getD k 0:Nat):Int)<=1:=by omega
         have v0:(0:Int)<=((dF (l2.take k):Nat):Int):=by omega
         have v1:((dF (l2.take k):Nat):Int)<9007199254740992:=by omega
         have HK:=hid hkl
         generalize ((l2.getD k 0:Nat):Int)=bb at *
         generalize ((dF (l2.take k):Nat):Int)=vv at *
         clear st QV hb1
         go_wp2_with fail
         go_round
         case rel=>exact⟨k+1,HK.out,by go_num,by rw[HST.out]⟩
         case measure=>simp[intOf];omega
        ·have hkk:k=len:=by omega
         have hall:dF (l2.take k)=N:=by rw[hkk,<- hs2.size,List.take_length];exact UF.out
         rw[hall] at QV ⊢
         have hkl':¬ (k:Int)<(len:Int):=by omega
         clear hkk hkl hall
         by_cases hlc:high-52 < -1074
         ·have hle:least = -1074:=by rw[<- LE.out];unfold je;rw[if_pos hlc]
          subst hle
          go_wp2_with fail
          go_loop [2,9] (λlv nv=>∃ (k:Nat) (y:Int),k<=K/\lv=.int .i64 (jo-(k:Int))/\nv=.int .u64 y/\y=((N*2 ^ k:Nat):Int)) (λlv _=>(intOf lv-(-1074)).toNat)
          case atStart=>exact⟨0,_,gy _,int_eq (by omega),rfl,by simp⟩
          case round=>
           obtain⟨k,y,hk,rfl,rfl,hy⟩:=hrel
           have HY:=hid hy
           have ylt:y<9007199254740992:=by
            have:N*2 ^ k<=N*2 ^ K:=Nat.mul_le_mul_left _ (dR (by decide) hk)
            have:=KB.out
            omega
           have y0:0<=y:=by omega
           clear hy
           by_cases Sz:k<K
           ·have hgt:(-1074)<jo-(k:Int):=by have:=KD.out;omega
            have HN:=hid (show ((N*2 ^ (k+1):Nat):Int)=2*y by rw[HY.out,Nat.pow_succ,<- Nat.mul_assoc];omega)
            have aAS:(k:Int)<200000:=by have:=KD.out;omega
            have HK:=hid Sz
            clear Sz
            go_wp2_with fail
            go_round
            case rel=>exact⟨k+1,2*y,HK.out,by go_num,by go_num,HN.out.symm⟩
            case measure=>simp[intOf];omega
           ·have hkk:k=K:=by omega
            have hle:¬ (-1074)<jo-(k:Int):=by have:=KD.out;omega
            have UC:=hid (show y=((N*2 ^ K:Nat):Int) by rw[HY.out,hkk])
            clear Sz hkk
            by_cases hh:high < -1022
            ·have E:=hid (show bH (dF L) low=some y by rw[<- HE.out,UC.out];exact T3.out (by omega))
             have w1:aL.wrap (sg+y)=sg+y:=by rw[aY];rcases hsg with rfl|rfl <;> omega
             go_wp2_with fail
             go_ret2
             exact⟨by rw[E.out];rfl,rfl⟩
            ·obtain⟨t1,t2⟩:=T4.out (by omega)
             have E:=hid (show bH (dF L) low=some ((high+1023)*4503599627370496+(y-4503599627370496)) by rw[<- HE.out,UC.out];exact t2)
             have y52:4503599627370496<=y:=by have:=UC.out;omega
             have w0:aL.wrap (high+1023)=high+1023:=by rw[aY];omega
             have w1:aL.wrap ((high+1023)*4503599627370496)=(high+1023)*4503599627370496:=by rw[aY];omega
             have w2:aL.wrap (sg+(high+1023)*4503599627370496)=sg+(high+1023)*4503599627370496:=by rw[aY];rcases hsg with rfl|rfl <;> omega
             have w3:aL.wrap (sg+(high+1023)*4503599627370496+(y-4503599627370496))=sg+((high+1023)*4503599627370496+(y-4503599627370496)):=by rw[aY];rcases hsg with rfl|rfl <;> omega
             clear t1 t2
             go_wp2_with fail
             go_ret2
             exact⟨by rw[E.out];exact aZ rfl rfl,rfl⟩
         ·have hle:high-52=least:=by rw[<- LE.out];unfold je;rw[if_neg hlc]
          go_wp2_with fail
          go_loop [2,9] (λlv nv=>∃ (k:Nat) (y:Int),k<=K/\lv=.int .i64 (jo-(k:Int))/\nv=.int .u64 y/\y=((N*2 ^ k:Nat):Int)) (λlv _=>(intOf lv-least).toNat)
          case atStart=>exact⟨0,_,gy _,int_eq (by omega),rfl,by simp⟩
          case round=>
           obtain⟨k,y,hk,rfl,rfl,hy⟩:=hrel
           have HY:=hid hy
           have ylt:y<9007199254740992:=by
            have:N*2 ^ k<=N*2 ^ K:=Nat.mul_le_mul_left _ (dR (by decide) hk)
            have:=KB.out
            omega
           have y0:0<=y:=by omega
           clear hy
           by_cases Sz:k<K
           ·have hgt:least<jo-(k:Int):=by have:=KD.out;omega
            have HN:=hid (show ((N*2 ^ (k+1):Nat):Int)=2*y by rw[HY.out,Nat.pow_succ,<- Nat.mul_assoc];omega)
            have aAS:(k:Int)<200000:=by have:=KD.out;omega
            have HK:=hid Sz
            clear Sz
            go_wp2_with fail
            go_round
            case rel=>exact⟨k+1,2*y,HK.out,by go_num,by go_num,HN.out.symm⟩
            case measure=>simp[intOf];omega
           ·have hkk:k=K:=by omega
            have hle:¬least<jo-(k:Int):=by have:=KD.out;omega
            have UC:=hid (show y=((N*2 ^ K:Nat):Int) by rw[HY.out,hkk])
            clear Sz hkk
            by_cases hh:high < -1022
            ·have E:=hid (show bH (dF L) low=some y by rw[<- HE.out,UC.out];exact T3.out (by omega))
             have w1:aL.wrap (sg+y)=sg+y:=by rw[aY];rcases hsg with rfl|rfl <;> omega
             go_wp2_with fail
             go_ret2
             exact⟨by rw[E.out];rfl,rfl⟩
            ·obtain⟨t1,t2⟩:=T4.out (by omega)
             have E:=hid (show bH (dF L) low=some ((high+1023)*4503599627370496+(y-4503599627370496)) by rw[<- HE.out,UC.out];exact t2)
             have y52:4503599627370496<=y:=by have:=UC.out;omega
             have w0:aL.wrap (high+1023)=high+1023:=by rw[aY];omega
             have w1:aL.wrap ((high+1023)*4503599627370496)=(high+1023)*4503599627370496:=by rw[aY];omega
             have w2:aL.wrap (sg+(high+1023)*4503599627370496)=sg+(high+1023)*4503599627370496:=by rw[aY];rcases hsg with rfl|rfl <;> omega
             have w3:aL.wrap (sg+(high+1023)*4503599627370496+(y-4503599627370496))=sg+((high+1023)*4503599627370496+(y-4503599627370496)):=by rw[aY];rcases hsg with rfl|rfl <;> omega
             clear t1 t2
             go_wp2_with fail
             go_ret2
             exact⟨by rw[E.out];exact aZ rfl rfl,rfl⟩
def bitsOf(l:List UInt8):List Nat:=l.flatMap λc=>Dh (bT c).toNat
theorem iX(l:List UInt8)(c:UInt8):bitsOf (l++[c])=bitsOf l++Dh (bT c).toNat:=by simp[bitsOf]
theorem qQ(l m:List UInt8):bitsOf (l++m)=bitsOf l++bitsOf m:=by simp[bitsOf]
theorem fO(l:List UInt8):(bitsOf l).length=4*l.length:=by
 induction l with
 | nil=>rfl
 | cons c l ih=>
  have:bitsOf (c::l)=Dh (bT c).toNat++bitsOf l:=by simp[bitsOf]
  rw[this,bY,ih,ay]
  simp[Dh];omega
theorem nY(l:List UInt8):dF (bitsOf l)=iI l:=by
 have go:∀ (m:List UInt8),dF (bitsOf m.reverse)=iI m.reverse:=by
  intro m
  induction m with
  | nil=>rfl
  | cons c m ih=>
   rw[List.reverse_cons,iX,pW]
   have:=Bf (bitsOf m.reverse) (bT c).toNat
   rw[show Dh (bT c).toNat=[(bT c).toNat/8,(bT c).toNat/4%2,(bT c).toNat/2%2,(bT c).toNat%2] from rfl,this,ih]
 have:=go l.reverse
 rw[List.reverse_reverse] at this
 exact this
theorem nZ(l:List UInt8):∀b ∈ bitsOf l,b<=1:=by
 intro b hb
 simp only[bitsOf,List.mem_flatMap] at hb
 obtain⟨c,-,hb⟩:=hb
 have:=fE c
 exact Lj _ (by omega) b hb
def seg(T:ByteArray)(a k:Nat):List UInt8:=(T.data.toList.drop a).take (k-a)
theorem eO(T:ByteArray)(a:Nat):seg T a a=[]:=by simp[seg]
theorem jX(T:ByteArray)(a k:Nat)(h:a<=k)(hk:k<T.size):seg T a (k+1)=seg T a k++[T[k]]:=by
 unfold seg
 have h1:k-a<(T.data.toList.drop a).length:=by rw[dI,size_list];omega
 rw[show k+1-a=(k-a)+1 by omega,Dp h1]
 congr 2
 rw[BQ]
 have:a+(k-a)=k:=by omega
 simp only[this]
 rfl
theorem fB(T:ByteArray)(a k:Nat)(h:a<=k)(hk:k<=T.size):(seg T a k).length=k-a:=by
 unfold seg
 rw[List.length_take,dI,size_list]
 omega
structure Stop (T:ByteArray) (a e:Nat):Prop where
 le:a<=e
 size:e<=T.size
 hex:∀k (h:k<T.size),a<=k->k<e->0<=bT T[k]
 no:∀h:e<T.size,bT T[e] = -1
 take:(T.data.toList.drop a).takeWhile dY=seg T a e
 drop:(T.data.toList.drop a).dropWhile dY=T.data.toList.drop e
theorem RH(p:UInt8->Bool)(l:List UInt8):∀c ∈ l.takeWhile p,p c=true:=by
 induction l with
 | nil=>intro c hc;cases hc
 | cons a l ih=>
  intro c hc
  cases h:p a with
  | true=>
   rw[lH,h,if_pos rfl] at hc
   rcases gL.1 hc with rfl|hc
   ·exact h
   ·exact ih c hc
  | false=>rw[lH,h] at hc;cases hc
theorem Fa(p:UInt8->Bool)(l:List UInt8):l.take (l.takeWhile p).length=l.takeWhile p/\l.drop (l.takeWhile p).length=l.dropWhile p:=by
 induction l with
 | nil=>exact⟨rfl,rfl⟩
 | cons a l ih=>
  cases h:p a with
  | true=>
   rw[lH,List.dropWhile_cons,h,if_pos rfl,if_pos rfl]
   simp only[ay,List.take_succ_cons,List.drop_succ_cons]
   exact⟨by rw[ih.1],ih.2⟩
  | false=>
   rw[lH,List.dropWhile_cons,h]
   exact⟨rfl,rfl⟩
theorem vC(T:ByteArray)(a:Nat)(ha:a<=T.size):∃e,Stop T a e:=by
 have hl:T.data.toList.length=T.size:=size_list T
 generalize hr:T.data.toList.drop a=r
 have hrl:r.length=T.size-a:=by rw[<- hr,dI,hl]
 have ht:r=r.takeWhile dY++r.dropWhile dY:=List.takeWhile_append_dropWhile.symm
 have hle:(r.takeWhile dY).length<=r.length:=by
  have:=congrArg List.length ht
  rw[bY] at this
  omega
 refine⟨a+(r.takeWhile dY).length,by omega,by omega,?_,?_,?_,?_⟩
 ·intro k h h1 h2
  have hk:k-a<(r.takeWhile dY).length:=by omega
  have hm:=List.getElem_mem hk
  have hx:=RH dY r _ hm
  have e1:(r.takeWhile dY)[k-a]=r[k-a]'(by omega):=by
   have:r[k-a]'(by omega)=(r.takeWhile dY++r.dropWhile dY)[k-a]'(by rw[<- ht];omega):=by simp only[<- ht]
   rw[this,List.getElem_append_left hk]
  have e2:r[k-a]'(by omega)=T[k]:=by
   have:r[k-a]'(by omega)=(T.data.toList.drop a)[k-a]'(by rw[hr];omega):=by simp only[hr]
   rw[this,BQ]
   have h3:a+(k-a)=k:=by omega
   simp only[h3]
   rfl
  rw[e1,e2] at hx
  exact of_decide_eq_true hx
 ·intro h
  have hd:r.dropWhile dY≠[]:=by
   intro e
   have:=congrArg List.length ht
   rw[e,List.append_nil] at this
   omega
  have hx:=List.head_dropWhile_not dY (l:=r) hd
  have e1:(r.dropWhile dY).head hd=T[a+(r.takeWhile dY).length]:=by
   have h0:0<(r.dropWhile dY).length:=List.length_pos_iff.2 hd
   rw[List.head_eq_getElem]
   have:(r.dropWhile dY)[0]=(r.takeWhile dY++r.dropWhile dY)[(r.takeWhile dY).length]'(by rw[bY];omega):=by
    rw[List.getElem_append_right (bO _)]
    simp
   rw[this]
   have:(r.takeWhile dY++r.dropWhile dY)[(r.takeWhile dY).length]'(by rw[bY];omega)=r[(r.takeWhile dY).length]'(by omega):=by simp only[<- ht]
   rw[this]
   have:r[(r.takeWhile dY).length]'(by omega)=(T.data.toList.drop a)[(r.takeWhile dY).length]'(by rw[hr];omega):=by simp only[hr]
   rw[this,BQ]
   rfl
  rw[e1] at hx
  have hr1:=fE T[a+(r.takeWhile dY).length]
  have:¬0<=bT T[a+(r.takeWhile dY).length]:=by
   intro h2
   rw[wo h2] at hx
   cases hx
  omega
 ·unfold seg
  rw[hr,show a+(r.takeWhile dY).length-a=(r.takeWhile dY).length by omega]
  exact(Fa dY r).1.symm
 ·rw[<- List.drop_drop,hr]
  exact(Fa dY r).2.symm
theorem pO(T:ByteArray)(k:Nat)(h:k+1<T.size):T.data.toList.drop k=T[k]::T[k+1]::T.data.toList.drop (k+2):=by
 rw[qV (by rw[size_list];omega),qV (by rw[size_list];omega)]
 rfl
theorem jR(T:ByteArray)(k:Nat)(h:T.size<=k+1):lV (T.data.toList.drop k)=none:=by
 have hl:(T.data.toList.drop k).length<=1:=by rw[dI,size_list];omega
 refine vI _ ?_ ?_ <;> (intro d e;rw[e] at hl;simp at hl)
theorem vH(T:ByteArray)(k:Nat)(h:k+1<T.size)(hp:T[k]≠112):lV (T.data.toList.drop k)=none:=by
 rw[pO T k h]
 refine vI _ ?_ ?_ <;> (intro d e;injection e with e1;exact hp e1)
theorem nU(T:ByteArray)(k:Nat)(h:k+1<T.size)(h1:T[k+1]≠43)(h2:T[k+1]≠45):lV (T.data.toList.drop k)=none:=by
 rw[pO T k h]
 refine vI _ ?_ ?_ <;> (intro d e;injection e with e1 e2;injection e2 with e3;first|exact h1 e3|exact h2 e3)
theorem oW(T:ByteArray)(k:Nat)(h:k+1<T.size)(hp:T[k]=112)(hs:T[k+1]=43\/T[k+1]=45) :
  lV (T.data.toList.drop k)=if fP (T.data.toList.drop (k+2))=true/\(T.data.toList.drop (k+2)).length<=5 then some (if T[k+1]=45 then -(au (T.data.toList.drop (k+2)):Int) else au (T.data.toList.drop (k+2))) else none:=by
 rw[pO T k h,hp]
 exact AB _ _ hs
theorem l7(T:ByteArray)(a:Nat):seg T a T.size=T.data.toList.drop a:=by
 unfold seg
 exact List.take_of_length_le (by rw[dI,size_list];omega)
theorem lY(T:ByteArray)(a k:Nat)(h:a<=k)(hk:k<T.size):au (seg T a (k+1))=10*au (seg T a k)+(T[k].toNat-48):=by
 rw[jX T a k h hk,tF]
theorem l5(T:ByteArray)(a k:Nat)(h:a<=k)(hk:k<T.size)(hd:bI T[k]=true)(ha:(seg T a k).all bI=true):(seg T a (k+1)).all bI=true:=by
 rw[jX T a k h hk,List.all_append,ha]
 simp[hd]
theorem lZ(T:ByteArray)(a k:Nat)(h:a<=k)(hk:k<T.size)(hd:bI T[k]=false):fP (T.data.toList.drop a)=false:=by
 have hm:T[k] ∈ T.data.toList.drop a:=by
  rw[<- List.take_append_drop (k+1-a) (T.data.toList.drop a)]
  have:=jX T a k h hk
  unfold seg at this
  rw[this];simp
 have e:(T.data.toList.drop a).all bI=false:=by
  rw[List.all_eq_false]
  exact⟨T[k],hm,by rw[hd];decide⟩
 unfold fP
 rw[e,Bool.and_false]
theorem jN(T:ByteArray)(a k:Nat)(ha:(seg T a k).all bI=true)(hl:(seg T a k).length<=5):au (seg T a k)<100000:=by
 have h2:=zY (seg T a k) (λc hc=>of_decide_eq_true (List.all_eq_true.1 ha c hc))
 have h3:10 ^ (seg T a k).length<=10 ^ 5:=dR (by decide) hl
 have h4:(10:Nat) ^ 5=100000:=by decide
 omega
theorem qD(T:ByteArray)(h2:1<T.size)(h0:T[0]=48)(h1:T[1]=120):bG T.data.toList=readBody (T.data.toList.drop 2):=by
 have:=pO T 0 h2
 rw[List.drop_zero,h0] at this
 rw[this]
 have h1':T[0+1]=120:=h1
 rw[h1']
 rfl
theorem DZ(T:ByteArray)(h:T.size<2\/∃h:1<T.size,T[0]≠48\/T[1]≠120):bG T.data.toList=none:=by
 unfold bG
 split
 ·rename_i r e
  have hl:=congrArg List.length e
  rw[size_list] at hl
  simp only[ay] at hl
  rcases h with h|⟨h,g⟩
  ·omega
  ·have hd:=pO T 0 h
   rw[List.drop_zero,e] at hd
   injection hd with e1 e2
   injection e2 with e3
   rcases g with g|g
   ·exact absurd e1.symm g
   ·exact absurd e3.symm g
 ·rfl
theorem qC(T:ByteArray)(e:Nat)(hs:Stop T 2 e)(h:e=2):readBody (T.data.toList.drop 2)=none:=by
 unfold readBody
 rw[hs.take,h,eO,if_pos rfl]
theorem EC(T:ByteArray)(a e:Nat)(hs:Stop T a e)(h:e≠a):seg T a e≠[]:=by
 intro g
 have:=fB T a e hs.le hs.size
 rw[g] at this
 have:=hs.le
 simp at *
 omega
theorem xL(T:ByteArray)(e:Nat)(hs:Stop T 2 e)(h:e≠2)(hd:∀h:e<T.size,T[e]≠46):readBody (T.data.toList.drop 2)=jF (iI (seg T 2 e)) 0 (T.data.toList.drop e):=by
 unfold readBody
 rw[hs.take,hs.drop,if_neg (EC T 2 e hs h)]
 split
 ·rename_i r1 g
  have hl:=congrArg List.length g
  rw[dI,size_list] at hl
  simp only[ay] at hl
  have he:e<T.size:=by omega
  rw[qV (by rw[size_list];exact he)] at g
  injection g with g1 g2
  exact absurd g1 (hd he)
 ·rfl
theorem xK(T:ByteArray)(e f:Nat)(hs:Stop T 2 e)(h:e≠2)(he:e<T.size)(hd:T[e]=46)(hf:Stop T (e+1) f) :
  readBody (T.data.toList.drop 2)=if f=e+1 then none else jF (iI (seg T 2 e++seg T (e+1) f)) (f-(e+1)) (T.data.toList.drop f):=by
 unfold readBody
 rw[hs.take,hs.drop,if_neg (EC T 2 e hs h)]
 have g:T.data.toList.drop e=46::T.data.toList.drop (e+1):=by
  rw[qV (by rw[size_list];exact he)]
  have:T.data.toList[e]'(by rw[size_list];exact he)=T[e]:=rfl
  rw[this,hd]
 rw[g]
 simp only[hf.take,hf.drop]
 by_cases q:f=e+1
 ·rw[if_pos q,q,eO,if_pos rfl]
 ·rw[if_neg q,if_neg (EC T (e+1) f hf q),fB T (e+1) f hf.le hf.size]
theorem uO(c:UInt8):bI c=(!(decide ((c.toNat:Int)<48)||decide (57<(c.toNat:Int)))):=by
 unfold bI
 rw[dQ]
 simp only[decide_eq_true_eq,Bool.not_eq_true',Bool.or_eq_false_iff,decide_eq_false_iff_not]
 omega
def sO(sg:Int)(o:Option Int):Int × Int:=match o with|none=>(0,21)|some a=>(sg+a,0)
theorem kQ(sg:Int)(o:Option Int):Wt sg o=.tuple #[.int .u64 (sO sg o).1,.int .i64 (sO sg o).2]:=by cases o <;> rfl
theorem kR(sg:Int)(N:Nat)(low:Int):cO sg (some (N,low))=sO sg (bH N low):=by
 cases h:bH N low with
 | none=>simp only[cO,h,sO]
 | some a=>simp only[cO,h,sO]
end Go.Proofs.YtgchnkgolclmgaaGreatDoor.W

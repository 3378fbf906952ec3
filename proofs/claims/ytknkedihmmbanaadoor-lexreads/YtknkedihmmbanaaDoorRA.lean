import Derived.Test.YtknkedihmmbanaaDoorKY
import Derived.Test.YtknkedihmmbanaaDoorJS
import Derived.Test.YtknkedihmmbanaaDoorJE
import Derived.Test.YtknkedihmmbanaaDoorJF
open List renaming length_cons → z3z, length_append → z5z, length_drop → z6z, mem_cons → z11z, getD_eq_getElem?_getD → z13z, takeWhile_cons → z14z, drop_eq_getElem_cons → z15z, not_mem_nil → z16z, getElem_drop → z17z, take_succ_eq_append_getElem → z18z, getElem?_eq_getElem → z19z
open Nat renaming le_refl → z4z, pow_le_pow_right → z10z, zero_le → z12z
open Bool renaming eq_iff_iff → z7z
open Go.IntKind renaming u64 → z1z, wrap_u64 → z2z, i64 → z8z, wrap_i64 → z9z
open And renaming intro → z0z
open Go.Proofs.Tryd
set_option maxRecDepth 1000000
set_option maxHeartbeats 8000000
namespace Go.Proofs.YtknkedihmmbanaaDoor.W
open Go.ChangeShapes Go.WideShapes Go.RowKit Go.Shelf
set_option linter.unusedVariables false
set_option linter.unusedSimpArgs false
def startB(c:UInt8):Bool:=decide (97<=c.toNat/\c.toNat<=122)||decide (c.toNat=95)
theorem rStarts_c(c:UInt8)(w:World):Calls prog 24 #[.int .u8 c.toNat] w λe w'=>e=.returned (.bool (startB c))/\w'=w:=by
 unfold startB
 go_enter func24,ntmps24
 go_wp2
 all_goals (go_ret;refine⟨ret_bool ?_,rfl⟩;first|rfl|(rw[z7z];simp;done)|(rw[z7z];simp;omega))
theorem rDigit_c(c:UInt8)(w:World):Calls prog 26 #[.int .u8 c.toNat] w λe w'=>e=.returned (.bool (digB c))/\w'=w:=by
 go_enter func26,ntmps26
 go_wp2
 all_goals (go_ret;refine⟨ret_bool ?_,rfl⟩;simp only[digB];rw[z7z];simp only[decide_eq_true_eq,Bool.false_eq_true,false_iff];omega)
theorem name_start(c:UInt8):nameB c=(startB c||digB c):=by
 have e1:nameB c=(decide (97<=c.toNat/\c.toNat<=122)||digB c||decide (c.toNat=95)):=by
  unfold nameB
  rw[<- u8_eq c 95 (by decide)];rfl
 rw[e1]
 unfold startB
 cases digB c <;> simp
theorem rGoesOn_c(c:UInt8)(w:World):Calls prog 46 #[.int .u8 c.toNat] w λe w'=>e=.returned (.bool (nameB c))/\w'=w:=by
 have cs:=rStarts_c c
 have cd:=rDigit_c c
 rw[name_start]
 generalize startB c=a at *
 generalize digB c=b at *
 cases a <;> cases b
 all_goals (
  go_enter func46,ntmps46
  go_wp2_with ((with_reducible (apply Calls.mono;first|exact cs _|exact cd _));rintro e w' ⟨rfl,rfl⟩)
  go_ret
  exact⟨rfl,rfl⟩)
theorem rHex_c(c:UInt8)(w:World):Calls prog 49 #[.int .u8 c.toNat] w λe w'=>e=.returned (.int .i64 (hexV c))/\w'=w:=by
 have cd:=rDigit_c c
 have hlt:=c.toNat_lt
 unfold hexV
 by_cases h1:48<=c.toNat/\c.toNat<=57
 ·have hd:digB c=true:=by unfold digB;exact decide_eq_true h1
  rw[hd] at cd
  rw[if_pos h1]
  have e1:IntKind.u8.wrap ((c.toNat:Int)-48)=(c.toNat:Int)-48:=by rw[IntKind.wrap_u8];omega
  have e2:z8z.wrap ((c.toNat:Int)-48)=(c.toNat:Int)-48:=by rw[z9z];omega
  clear h1 hd hlt
  go_enter func49,ntmps49
  go_wp2_with (go_at_call 26;(with_reducible refine(cd _).mono ?_);rintro e w' ⟨rfl,rfl⟩)
  go_ret
  exact⟨rfl,rfl⟩
 ·have hd:digB c=false:=by unfold digB;exact decide_eq_false h1
  rw[hd] at cd
  rw[if_neg h1]
  by_cases h2:97<=c.toNat/\c.toNat<=102
  ·rw[if_pos h2]
   have g1:(c.toNat:Int)≥97:=by omega
   have g2:(c.toNat:Int)<=102:=by omega
   have e1:IntKind.u8.wrap ((c.toNat:Int)-97)=(c.toNat:Int)-97:=by rw[IntKind.wrap_u8];omega
   have e2:z8z.wrap ((c.toNat:Int)-97)=(c.toNat:Int)-97:=by rw[z9z];omega
   have e3:z8z.wrap ((c.toNat:Int)-97+10)=(c.toNat:Int)-87:=by rw[z9z];omega
   clear h1 hd hlt h2
   go_enter func49,ntmps49
   go_wp2_with (go_at_call 26;(with_reducible refine(cd _).mono ?_);rintro e w' ⟨rfl,rfl⟩)
   go_ret
   exact⟨rfl,rfl⟩
  ·rw[if_neg h2]
   go_enter func49,ntmps49
   go_wp2_with (go_at_call 26;(with_reducible refine(cd _).mono ?_);rintro e w' ⟨rfl,rfl⟩)
   all_goals first|(go_ret;exact⟨rfl,rfl⟩)|(exfalso;omega)
theorem rReserved_c(s:ByteArray)(w:World):Calls prog 48 #[.string s] w λe w'=>e=.returned (.bool (decide (s.data.toList ∈ words)))/\w'=w:=by
 by_cases h:s.data.toList ∈ words
 ·rw[decide_eq_true h]
  unfold words at h
  simp only[z11z,z16z,or_false] at h
  rcases h with h|h|h|h|h|h|h|h|h|h|h|h|h|h|h|h|h
  all_goals (
   have hs:=bytes_of h
   subst hs
   go_enter func48,ntmps48
   go_wp2
   go_ret
   exact⟨rfl,rfl⟩)
 ·rw[decide_eq_false h]
  have ne:∀l ∈ words,(s.toList==l)=false:=by
   intro l hl
   rw[beq_eq_false_iff_ne,toList_eq]
   rintro rfl
   exact h hl
  have n2:=ne [102,110] (by decide)
  have n3:=ne [108,101,116] (by decide)
  have n4:=ne [105,102] (by decide)
  have n5:=ne [101,108,115,101] (by decide)
  have n6:=ne [119,104,105,108,101] (by decide)
  have n7:=ne [102,111,114] (by decide)
  have n8:=ne [105,110] (by decide)
  have n9:=ne [98,114,101,97,107] (by decide)
  have n10:=ne [99,111,110,116,105,110,117,101] (by decide)
  have n11:=ne [114,101,116,117,114,110] (by decide)
  have n12:=ne [111,117,116] (by decide)
  have n13:=ne [97,110,100] (by decide)
  have n14:=ne [111,114] (by decide)
  have n15:=ne [110,111,116] (by decide)
  have n16:=ne [116,114,117,101] (by decide)
  have n17:=ne [102,97,108,115,101] (by decide)
  have n18:=ne [110,105,108] (by decide)
  clear ne h
  go_enter func48,ntmps48
  go_wp2
  go_ret
  exact⟨rfl,rfl⟩
theorem rMark_c(s:ByteArray)(w:World):Calls prog 29 #[.string s] w λe w'=>e=.returned (.bool (decide (s.data.toList ∈ marks)))/\w'=w:=by
 by_cases h:s.data.toList ∈ marks
 ·rw[decide_eq_true h]
  unfold marks at h
  simp only[z11z,z16z,or_false] at h
  rcases h with h|h|h|h|h|h|h|h|h|h|h|h|h|h|h|h|h|h|h|h|h|h|h|h|h|h|h|h|h
  all_goals (
   have hs:=bytes_of h
   subst hs
   go_enter func29,ntmps29
   go_wp2
   go_ret
   exact⟨rfl,rfl⟩)
 ·rw[decide_eq_false h]
  have ne:∀l ∈ marks,(s.toList==l)=false:=by
   intro l hl
   rw[beq_eq_false_iff_ne,toList_eq]
   rintro rfl
   exact h hl
  have n0:=ne [61,61] (by decide)
  have n1:=ne [33,61] (by decide)
  have n2:=ne [60,61] (by decide)
  have n3:=ne [62,61] (by decide)
  have n4:=ne [60,60] (by decide)
  have n5:=ne [62,62] (by decide)
  have n6:=ne [47,47] (by decide)
  have n7:=ne [46,46] (by decide)
  have n8:=ne [43] (by decide)
  have n9:=ne [45] (by decide)
  have n10:=ne [42] (by decide)
  have n11:=ne [47] (by decide)
  have n12:=ne [37] (by decide)
  have n13:=ne [38] (by decide)
  have n14:=ne [124] (by decide)
  have n15:=ne [94] (by decide)
  have n16:=ne [126] (by decide)
  have n17:=ne [60] (by decide)
  have n18:=ne [62] (by decide)
  have n19:=ne [61] (by decide)
  have n20:=ne [40] (by decide)
  have n21:=ne [41] (by decide)
  have n22:=ne [123] (by decide)
  have n23:=ne [125] (by decide)
  have n24:=ne [91] (by decide)
  have n25:=ne [93] (by decide)
  have n26:=ne [44] (by decide)
  have n27:=ne [59] (by decide)
  have n28:=ne [58] (by decide)
  clear ne h
  go_enter func29,ntmps29
  go_wp2
  go_ret
  exact⟨rfl,rfl⟩
def NoGap(r:List UInt8):Prop:=∀c,r.head? = some c->c≠35/\blankB c=false
theorem rem_end(l:List UInt8)(k j:Nat)(c:UInt8)(hd:l.drop k=c::l.drop (k+1))(hc:c=35)(h:runN lineB (l.drop k)+k=j):T (l.drop k) k=T (l.drop j) j:=by
 subst hc
 rw[hd,runN_cons_t (by decide)] at h
 rw[hd,T_remark,List.drop_drop]
 have e:k+1+runN lineB (l.drop (k+1))=j:=by omega
 have e2:k+(runN lineB (l.drop (k+1))+1)=j:=by omega
 rw[e,e2]
theorem rBlank_c(s:ByteArray)(hs:s.size<=1000000)(a:Nat)(ha:a<=s.size)(w:World):Calls prog 15 #[.string s,.int .i64 a] w λe w'=>w'=w/\∃k:Nat,e=.returned (.int .i64 k)/\a<=k/\k<=s.size/\T (s.data.toList.drop a) a=T (s.data.toList.drop k) k/\NoGap (s.data.toList.drop k):=by
 have HS:=hid hs
 clear hs
 go_enter func15,ntmps15
 go_wp2_with fail
 go_loop [1] (λi=>∃k:Nat,i=.int .i64 k/\a<=k/\k<=s.size/\T (s.data.toList.drop a) a=T (s.data.toList.drop k) k) (λi=>s.size-(intOf i).toNat)
 case atStart=>exact⟨a,rfl,z4z _,ha,rfl⟩
 case round=>
  obtain⟨k,rfl,h1,h2,h3⟩:=hrel
  by_cases c:k<s.size
  ·have c1:(k:Int)<(s.size:Int):=by omega
   have c0:(0:Int)<=(k:Int):=by omega
   have hd:=drop_cons s k c
   have e1:z8z.wrap ((k:Int)+1)=((k+1:Nat):Int):=by have:=HS.out;rw[z9z];omega
   have e2:wrap64 ((k:Int)+1)=((k+1:Nat):Int):=by have:=HS.out;unfold wrap64;omega
   have tb:blankB s[k]=true->T (s[k]::s.data.toList.drop (k+1)) k=T (s.data.toList.drop (k+1)) (k+1):=λh'=>T_blank s[k] (s.data.toList.drop (k+1)) k h'
   have bl:blankB s[k]=(decide (s[k].toNat=32)||decide (s[k].toNat=9)||decide (s[k].toNat=10)):=by
    unfold blankB
    rw[<- u8_eq s[k] 32 (by decide),<- u8_eq s[k] 9 (by decide),<- u8_eq s[k] 10 (by decide)];rfl
   by_cases b:blankB s[k]=true
   ·have fin:=hid (show T (s.data.toList.drop a) a=T (s.data.toList.drop (k+1)) (k+1) by rw[h3,hd,tb b])
    have b':s[k].toNat=32\/s[k].toNat=9\/s[k].toNat=10:=by rw[bl] at b;simpa [or_assoc] using b
    have HH:=hid (z0z h1 c)
    clear tb bl hd h3 h1 h2 b
    rcases b' with b|b|b
    all_goals (
     go_wp2
     go_round
     case rel=>exact⟨k+1,by go_num,by have:=HH.out.1;omega,HH.out.2,fin.out⟩
     case measure=>have:=HH.out.2;simp[intOf];omega)
   ·have b0:blankB s[k]=false:=by simpa using b
    have n1:¬s[k].toNat=32:=λe=>b (by rw[bl,e];rfl)
    have n2:¬s[k].toNat=9:=λe=>b (by rw[bl,e];rfl)
    have n3:¬s[k].toNat=10:=λe=>b (by rw[bl,e];rfl)
    clear tb bl b
    by_cases q:s[k].toNat=35
    ·have q':s[k]=35:=u8_is q
     have HH:=hid (z0z h1 (z0z c h3))
     have HD:=hid hd
     have HQ:=hid q'
     have HLB:=hid (show lineB s[k]=true by rw[q'];decide)
     clear h1 h3 hd q' h2 b0
     go_wp2_with fail
     go_loop [1] (λi=>∃j:Nat,i=.int .i64 j/\k<=j/\j<=s.size/\runN lineB (s.data.toList.drop k)+k=runN lineB (s.data.toList.drop j)+j) (λi=>s.size-(intOf i).toNat)
     case atStart=>exact⟨k,rfl,z4z _,Nat.le_of_lt HH.out.2.1,rfl⟩
     case round=>
      obtain⟨j,rfl,g1,g2,g3⟩:=hrel
      by_cases cj:j<s.size
      ·have j1:(j:Int)<(s.size:Int):=by omega
       have j0:(0:Int)<=(j:Int):=by omega
       have hdj:=drop_cons s j cj
       have w1:z8z.wrap ((j:Int)+1)=((j+1:Nat):Int):=by have:=HS.out;rw[z9z];omega
       have w2:wrap64 ((j:Int)+1)=((j+1:Nat):Int):=by have:=HS.out;unfold wrap64;omega
       by_cases ln:s[j].toNat=10
       ·have l0:lineB s[j]=false:=by rw[u8_is ln];decide
        have hj:runN lineB (s.data.toList.drop j)=0:=by rw[hdj];exact runN_cons_f l0
        have fin:=hid (rem_end s.data.toList k j _ HD.out HQ.out (by omega))
        have jk:k+1<=j:=by
         by_cases e:j=k
         ·subst e;exact absurd ln n3
         ·omega
        have HJ:=hid (z0z jk g2)
        clear g1 g2 g3 hdj l0 hj jk
        go_wp2
        go_round
        case rel=>exact⟨j,rfl,by have:=HH.out.1;have:=HJ.out.1;omega,HJ.out.2,HH.out.2.2.trans fin.out⟩
        case measure=>have:=HJ.out;simp[intOf];omega
       ·have l1:lineB s[j]=true:=by unfold lineB;rw[bne_iff_ne];rintro e;rw[e] at ln;exact ln rfl
        have fin:=hid (show runN lineB (s.data.toList.drop k)+k=runN lineB (s.data.toList.drop (j+1))+(j+1) by rw[g3,hdj,runN_cons_t l1];omega)
        have HJ:=hid (z0z g1 cj)
        clear g1 g2 g3 hdj l1
        go_wp2
        go_round
        case rel=>exact⟨j+1,by go_num,by have:=HJ.out.1;omega,HJ.out.2,fin.out⟩
        case measure=>have:=HJ.out;simp[intOf];omega
      ·have j1:¬ (j:Int)<(s.size:Int):=by omega
       have hj:runN lineB (s.data.toList.drop j)=0:=by rw[List.drop_eq_nil_of_le (by rw[size_list];omega)];rfl
       have fin:=hid (rem_end s.data.toList k j _ HD.out HQ.out (by omega))
       have HJ:=hid (z0z g2 cj)
       have jk:k+1<=j:=by have:=HH.out.2.1;omega
       have HJK:=hid jk
       clear g1 g2 g3 cj hj jk
       go_wp2
       go_round
       case rel=>exact⟨j,rfl,by have:=HH.out.1;have:=HJK.out;omega,HJ.out.1,HH.out.2.2.trans fin.out⟩
       case measure=>have:=HJ.out;have:=HJK.out;have:=HH.out.2.1;simp[intOf];omega
    ·have fin:=hid (show NoGap (s.data.toList.drop k) by
      intro d hdd
      rw[hd] at hdd
      injection hdd with hdd
      subst hdd
      exact⟨λe=>q (by rw[e];rfl),b0⟩)
     have HH:=hid (z0z h1 (z0z h2 h3))
     have m1:((s[k].toNat:Int)==32)=false:=by simp;omega
     have m2:((s[k].toNat:Int)==9)=false:=by simp;omega
     have m3:((s[k].toNat:Int)==10)=false:=by simp;omega
     have m4:((s[k].toNat:Int)==35)=false:=by simp;omega
     clear h1 h2 h3 hd b0 n1 n2 n3 q
     go_wp2
     go_ret
     exact⟨rfl,k,rfl,HH.out.1,HH.out.2.1,HH.out.2.2,fin.out⟩
  ·have c1:¬ (k:Int)<(s.size:Int):=by omega
   have fin:=hid (show NoGap (s.data.toList.drop k) by
    intro d hdd
    rw[List.drop_eq_nil_of_le (by rw[size_list];omega)] at hdd
    cases hdd)
   have HH:=hid (z0z h1 (z0z h2 h3))
   clear h1 h2 h3 c
   go_wp2
   go_ret
   exact⟨rfl,k,rfl,HH.out.1,HH.out.2.1,HH.out.2.2,fin.out⟩
open Go.ChangeShapes Go.WideShapes Go.RowKit
theorem hexd_hexV(c:UInt8)(h:0<=hexV c):hexd (hexV c).toNat=c:=by
 have all:∀n:Fin 256,0<=hexV (UInt8.ofNat n.val)->hexd (hexV (UInt8.ofNat n.val)).toNat=UInt8.ofNat n.val:=by decide +kernel
 have:=all ⟨c.toNat,c.toNat_lt⟩
 simp only[UInt8.ofNat_toNat] at this
 exact this h
theorem hexV_no(c:UInt8)(h:∀j,j<16->hexd j≠c):hexV c = -1:=by
 obtain⟨r1,r2⟩:=hexV_range c
 by_cases h0:0<=hexV c
 ·exact absurd (hexd_hexV c h0) (h _ (by omega))
 ·omega
theorem chr_eq(c d:UInt8):((c.toNat:Int)==(d.toNat:Int))=decide (c=d):=by
 rw[z7z,beq_iff_eq,decide_eq_true_eq]
 constructor
 ·intro e
  exact UInt8.toNat_inj.1 (by omega)
 ·intro e;subst e;rfl
theorem refHex_c(c:UInt8)(w:World) :
  Calls prog 69 #[.int .u8 c.toNat] w λe w'=>e=.returned (.int .i64 (hexV c))/\w'=w:=by
 go_enter func69,ntmps69
 go_wp2_with fail
 go_loop [3] (λi=>∃k:Nat,k<=16/\i=.int .i64 k/\∀j,j<k->hexd j≠c) (λi=>16-(intOf i).toNat)
 case atStart=>exact⟨0,z12z _,rfl,by intro j hj;omega⟩
 case round=>
  obtain⟨k,hk,rfl,hn⟩:=hrel
  by_cases hlt:k<16
  ·have hx:=hex_index k hlt
   have hlt':(k:Int)<16:=by omega
   have hq:=chr_eq (hexd k) c
   by_cases hc:hexd k=c
   ·have H:=hid (show hexV c=k by rw[<- hc];exact hexV_hexd k hlt)
    rw[decide_eq_true hc] at hq
    generalize hexd k=c' at *
    clear hn hc
    go_wp2_with fail
    go_ret
    exact⟨ret_int H.out.symm,rfl⟩
   ·have H:=hid (show ∀j,j<k+1->hexd j≠c by
     intro j hj
     by_cases e:j=k
     ·rw[e];exact hc
     ·exact hn j (by omega))
    rw[decide_eq_false hc] at hq
    generalize hexd k=c' at *
    clear hn hc
    go_wp2_with fail
    go_round
    case rel=>exact⟨k+1,hlt,by go_num,H.out⟩
    case measure=>simp[intOf];omega
  ·have hk16:k=16:=by omega
   subst hk16
   have H:=hid (hexV_no c hn)
   clear hn
   go_wp2_with fail
   go_ret
   exact⟨ret_int H.out.symm,rfl⟩
theorem Tryd.infoI:(prog.info? 3).map (λi=>(i.zero,i.size,i.bytes))=some (some (.int .i64 0),1,8):=by kernel_rfl
def bitsV(l:List Nat):List Value:=l.map λb:Nat=>Value.int .i64 (b:Int)
def nib(d:Nat):List Nat:=[d/8,d/4%2,d/2%2,d%2]
theorem nib_bits(d:Nat)(h:d<16):∀b ∈ nib d,b<=1:=by
 intro b hb
 simp only[nib,z11z,z16z,or_false] at hb
 omega
theorem refNibble_c(B:Nat)(v:Value)(n d:Nat)(L:List Nat)(w:World)(hown:w.ownsRow B 3 1 v n (bitsV L))(hB:B<=w.heap.size)(hn:n<=300)(hd:d<16) :
  Calls prog 70 #[v,.int .i64 d] w λe w'=>∃v',e=.returned v'/\w'.ownsRow B 3 1 v' (n+4) (bitsV (L++nib d))/\Below B w w':=by
 obtain⟨i0,hi,hz0,hz1,hz2⟩:=info_parts Tryd.infoI
 have e1:(d:Int)/8=((d/8:Nat):Int):=by omega
 have e2:(d:Int)/4%2=((d/4%2:Nat):Int):=by omega
 have e3:(d:Int)/2%2=((d/2%2:Nat):Int):=by omega
 have e4:(d:Int)%2=((d%2:Nat):Int):=by omega
 have eL:bitsV (L++nib d)=bitsV L++[.int .i64 ((d/8:Nat):Int),.int .i64 ((d/4%2:Nat):Int),.int .i64 ((d/2%2:Nat):Int),.int .i64 ((d%2:Nat):Int)]:=by unfold bitsV nib;rw[List.map_append];rfl
 have HL:=hid eL
 have d0:(0:Int)<=(d:Int):=by omega
 have d16:(d:Int)<16:=by omega
 generalize ((d/8:Nat):Int)=x1 at *
 generalize ((d/4%2:Nat):Int)=x2 at *
 generalize ((d/2%2:Nat):Int)=x3 at *
 generalize ((d%2:Nat):Int)=x4 at *
 clear eL
 go_enter func70,ntmps70
 go_wp2_with (at_builtin;refine wpList_append_own _ rfl _ _ 38 rfl B 3 i0 (.int .i64 0) 1 8 underlying38 hi hz0 hz1 hz2 rfl (by decide) _ _ _ rfl (hown.alloc _) ⟨_,0,none⟩ 4 4 [.int .i64 x1,.int .i64 x2,.int .i64 x3,.int .i64 x4] rfl rfl ?c1 ?c2 ?c3 ?c4 ?c5 ?_)
 case c1=>
  intro j u hj
  match j,hj with
  | 0,hj=>simp at hj;subst hj;simp[Addr.add]
  | 1,hj=>simp at hj;subst hj;simp[Addr.add]
  | 2,hj=>simp at hj;subst hj;simp[Addr.add]
  | 3,hj=>simp at hj;subst hj;simp[Addr.add]
 case c2=>
  intro u hu
  simp at hu
  rcases hu with rfl|rfl|rfl|rfl <;> rfl
 case c3=>unfold maxLen;omega
 case c4=>omega
 case c5=>simp;omega
 ·intro v' w1 hown' hgrow _
  have R2:Below B w w1:=((Below.refl B w).alloc hB _).grown hgrow (by simp;omega) (λg hg=>(hown.lt g hg).1)
  clear hgrow hown
  go_wp2
  go_ret
  exact⟨v',rfl,by rw[HL.out];exact hown',R2⟩
structure SubR (w:World) (g:Nat) (off len:Nat) (l:List Nat):Prop where
 size:l.length=len
 bit:∀b ∈ l,b<=1
 cell:∀j,j<len->w.cell? ⟨g,off+j,none⟩=some (.int .i64 ((l.getD j 0:Nat):Int))
theorem SubR.tail{w:World}{g off len b:Nat}{l:List Nat}(h:SubR w g off len (b::l)):SubR w g (off+1) (len-1) l:=by
 have hl:=h.size
 simp only[z3z] at hl
 refine⟨by omega,λx hx=>h.bit x (by simp[hx]),λj hj=>?_⟩
 have:=h.cell (j+1) (by omega)
 rw[show off+1+j=off+(j+1) by omega,this]
 rfl
theorem SubR.init{w:World}{g off len b:Nat}{l:List Nat}(h:SubR w g off len (l++[b])):SubR w g off (len-1) l:=by
 have hl:=h.size
 simp only[z5z,z3z,List.length_nil] at hl
 refine⟨by omega,λx hx=>h.bit x (by simp[hx]),λj hj=>?_⟩
 rw[h.cell j (by omega)]
 simp[z13z,List.getElem?_append_left (show j<l.length by omega)]
def ansX(sg:Int)(o:Option Int):Value:=match o with|none=>.tuple #[.int .u64 0,.int .i64 21]|some a=>.tuple #[.int .u64 (sg+a),.int .i64 0]
theorem valB_take(l:List Nat)(k:Nat)(h:k<l.length):valB (l.take (k+1))=2*valB (l.take k)+l.getD k 0:=by
 rw[z18z h,valB_snoc]
 simp[z13z,z19z h]
theorem valB_take_lt(l:List Nat)(hb:∀b ∈ l,b<=1)(k:Nat)(h:l.length<=53):valB (l.take k)<9007199254740992:=by
 have h1:=valB_lt (l.take k) (λb hx=>hb b (List.mem_of_mem_take hx))
 have h2:2 ^ (l.take k).length<=2 ^ 53:=z10z (by decide) (by rw[List.length_take];omega)
 have h3:(2:Nat) ^ 53=9007199254740992:=by decide
 omega
def leastI(high:Int):Int:=if high-52 < -1074 then -1074 else high-52
theorem exact_tail(N len:Nat)(low:Int)(hodd:N%2=1)(hlog:N.log2+1=len) :
  (53<len\/1023<low+len-1\/low < -1074->exactP N low=none) /\
  (¬ (53<len\/1023<low+len-1\/low < -1074)->leastI (low+len-1)<=low/\N*2 ^ (low-leastI (low+len-1)).toNat<9007199254740992 /\
   (low+len-1 < -1022->exactP N low=some ((N*2 ^ (low-leastI (low+len-1)).toNat:Nat):Int)) /\
   (¬low+len-1 < -1022->4503599627370496<=N*2 ^ (low-leastI (low+len-1)).toNat/\exactP N low=some ((low+len-1+1023)*4503599627370496+(((N*2 ^ (low-leastI (low+len-1)).toNat:Nat):Int)-4503599627370496)))):=by
 have ex:=exact_odd N low hodd
 have hn0:N≠0:=by omega
 obtain⟨l1,l2⟩:=high_le hn0
 constructor
 ·intro h
  rw[ex,if_pos (by omega)]
 ·intro h
  have hc:¬ (52<N.log2\/low < -1074\/1023<low+N.log2):=by omega
  rw[ex,if_neg hc]
  have lt2:N*2 ^ (low-leastI (low+len-1)).toNat<2 ^ (N.log2+1)*2 ^ (low-leastI (low+len-1)).toNat:=Nat.mul_lt_mul_of_pos_right l2 (Nat.two_pow_pos _)
  rw[<- Nat.pow_add] at lt2
  have h53:(2:Nat) ^ 53=9007199254740992:=by decide
  by_cases hh:low+len-1 < -1022
  ·have hl:leastI (low+len-1) = -1074:=by
    unfold leastI
    by_cases q:low+(len:Int)-1-52 < -1074
    ·rw[if_pos q]
    ·rw[if_neg q];omega
   rw[hl] at lt2 ⊢
   have e1:low - -1074=low+1074:=by omega
   rw[e1] at lt2 ⊢
   have le2:2 ^ (N.log2+1+(low+1074).toNat)<=2 ^ 53:=z10z (by decide) (by omega)
   refine⟨by omega,by omega,λ_=>?_,λg=>absurd hh g⟩
   rw[if_pos (by omega)]
  ·have hl:leastI (low+len-1)=low+len-1-52:=by
    unfold leastI
    rw[if_neg (by omega)]
   rw[hl] at lt2 ⊢
   have e1:(low-(low+(len:Int)-1-52)).toNat=52-N.log2:=by omega
   rw[e1] at lt2 ⊢
   rw[show N.log2+1+(52-N.log2)=53 by omega,h53] at lt2
   have ge:2 ^ N.log2*2 ^ (52-N.log2)<=N*2 ^ (52-N.log2):=Nat.mul_le_mul_right _ l1
   rw[<- Nat.pow_add,show N.log2+(52-N.log2)=52 by omega] at ge
   have h52:(2:Nat) ^ 52=4503599627370496:=by decide
   rw[h52] at ge
   refine⟨by omega,lt2,λg=>absurd g hh,λ_=>⟨ge,?_⟩⟩
   rw[if_neg (by omega)]
   congr 1
   have e2:((low+(N.log2:Int)+1023).toNat:Int)=low+N.log2+1023:=by omega
   omega
theorem refExact_c(g n cap:Nat)(L:List Nat)(sg low:Int)(w:World)(hsub:SubR w g 0 n L)(hn:n<=300)(hcap:n<=cap)(hcap2:cap<=maxLen)(l0:-200000<=low)(l1:low<=200000)(hsg:sg=0\/sg=9223372036854775808) :
  Calls prog 71 #[.int .u64 sg,.slice (some ⟨g,0,none⟩) n cap,.int .i64 low] w λe w'=>e=.returned (ansX sg (exactP (valB L) low))/\w'=w:=by
 unfold maxLen at hcap2
 have sg0:0<=sg:=by rcases hsg with rfl|rfl <;> omega
 have sg1:sg<=9223372036854775808:=by rcases hsg with rfl|rfl <;> omega
 go_enter func71,ntmps71
 go_wp2_with fail
 go_loop [1] (λv=>∃ (off len c:Nat) (l:List Nat),v=.slice (some ⟨g,off,none⟩) len c/\len<=c/\c<=cap/\len<=n/\SubR w g off len l/\valB l=valB L) (λv=>lenOf v)
 case atStart=>exact⟨0,n,cap,L,rfl,hcap,z4z _,z4z _,hsub,rfl⟩
 case round=>
  obtain⟨off,len1,c,l,rfl,hc1,hc2,hln,hs,hv⟩:=hrel
  cases l with
  | nil=>
   have hz:len1=0:=hs.size.symm
   have E:=hid (show exactP (valB L) low=some 0 by rw[<- hv];show exactP 0 low=some 0;unfold exactP;rw[if_pos rfl])
   subst hz
   clear hs hv
   go_wp2_with fail
   refine wp_loop_rounds 1 ?_
   rw[rounds_succ]
   go_wp2_with fail
   go_ret2
   exact⟨by rw[E.out];exact ret_ii (Int.add_zero sg).symm rfl,rfl⟩
  | cons b t=>
   have hl1:t.length+1=len1:=hs.size
   have s0:=hs.cell 0 (by omega)
   rw[Nat.add_zero] at s0
   have s0':w.cell? ⟨g,off,none⟩=some (.int .i64 ((b:Nat):Int)):=s0
   have hb1:=hs.bit b (by simp)
   clear s0
   by_cases hb:b=0
   ·subst hb
    have HS:=hid hs.tail
    have HV:=hid (show valB t=valB L by rw[<- hv,valB_nought])
    have hlen:(0:Int)<(len1:Int):=by omega
    clear hs hv
    by_cases hc:c=1
    ·have ht:t=[]:=List.eq_nil_of_length_eq_zero (by omega)
     have h11:len1=1:=by omega
     subst hc h11
     go_wp2_with fail
     go_round
     case rel=>exact⟨off,0,0,[],by first|rfl|simp,by omega,by omega,by omega,⟨rfl,by simp,λj hj=>by omega⟩,by rw[<- HV.out,ht]⟩
     case measure=>simp[lenOf]
    ·go_wp2_with fail
     go_round
     case rel=>exact⟨off+1,len1-1,c-1,t,by first|rfl|simp,by omega,by omega,by omega,HS.out,HV.out⟩
     case measure=>simp[lenOf];omega
   ·have hb':b=1:=by omega
    subst hb'
    have HS:=hid hs
    have HV:=hid (show exactP (valB (1::t)) low=exactP (valB L) low by rw[hv])
    have hlen:(0:Int)<(len1:Int):=by omega
    clear hs hv hb hb1
    go_wp2_with fail
    go_loop [1,2] (λv lv=>∃ (len:Nat) (low2:Int) (t2:List Nat),v=.slice (some ⟨g,off,none⟩) len c/\lv=.int .i64 low2/\low<=low2/\low2<=low+(len1:Int)-len/\len<=len1/\SubR w g off len (1::t2)/\exactP (valB (1::t2)) low2=exactP (valB L) low) (λv _=>lenOf v)
    case atStart=>exact⟨len1,low,t,rfl,rfl,by omega,by omega,z4z _,HS.out,HV.out⟩
    case round=>
     obtain⟨len,low2,t2,rfl,rfl,lw0,lw1,lw2,hs2,he⟩:=hrel
     have hl2:t2.length+1=len:=hs2.size
     have hsl:=hs2.cell (len-1) (by omega)
     obtain⟨l3,bl,hl3⟩:∃l3 bl,1::t2=l3++[bl]:=⟨_,_,(List.dropLast_concat_getLast (by simp)).symm⟩
     have hl3l:l3.length=len-1:=by
      have:=congrArg List.length hl3
      simp only[z3z,z5z,List.length_nil] at this
      omega
     have hgl:(1::t2).getD (len-1) 0=bl:=by rw[hl3,<- hl3l];simp[z13z]
     rw[hgl] at hsl
     have hadd:off+(len-1)=off+(len-1):=rfl
     have hbl:=hs2.bit bl (by rw[hl3];simp)
     have hpos:(0:Int)<(len:Int):=by omega
     have hidx:((len:Int)-1).toNat=len-1:=by omega
     have HS2:=hid hs2
     have HEE:=hid he
     clear hs2 he hadd hgl
     by_cases hb0:bl=0
     ·subst hb0
      cases l3 with
      | nil=>
       have h31:(1:Nat)::t2=[0]:=hl3
       injection h31 with h32 _
       exact absurd h32 (by decide)
      | cons x l4=>
       have hx:x=1:=by
        have h31:(1:Nat)::t2=x::(l4++[0]):=hl3
        injection h31 with h32 _
        exact h32.symm
       subst hx
       have hnew:=hid (show SubR w g off (len-1) (1::l4) by
        have:=HS2.out
        rw[hl3] at this
        exact this.init)
       have hval:=hid (show exactP (valB (1::l4)) (low2+1)=exactP (valB L) low by
        rw[<- HEE.out,hl3,valB_snoc,Nat.add_zero,exact_half])
       have ll4:1<len:=by simp only[z3z] at hl3l;omega
       have lb:low2+1<=300000:=by omega
       have lb0:-300000<=low2:=by omega
       clear hl3 hl3l
       go_wp2_with fail
       go_round
       case rel=>exact⟨len-1,low2+1,l4,by go_num,by go_num,by omega,by omega,by omega,hnew.out,hval.out⟩
       case measure=>simp[lenOf];omega
     ·have hb1:bl=1:=by omega
      subst hb1
      have hodd:valB (1::t2)%2=1:=by rw[hl3,valB_snoc];omega
      have hlog:=(valB_log t2 (λx hx=>HS2.out.bit x (by simp[hx]))).2
      obtain⟨T1,T2⟩:=exact_tail (valB (1::t2)) len low2 hodd (by omega)
      have HE:=hid (show exactP (valB (1::t2)) low2=exactP (valB L) low from HEE.out)
      have ll:(len:Int)<=300:=by omega
      have lb:low2<=300000:=by omega
      have lb0:-300000<=low2:=by omega
      clear hb0 hbl hl3 hl3l hodd hlog HEE
      obtain⟨high,hhigh⟩:∃high,low2+(len:Int)-1=high:=⟨_,rfl⟩
      rw[hhigh] at T1 T2
      by_cases hx:53<len\/1023<high\/low2 < -1074
      ·have E:=hid (show exactP (valB L) low=none by rw[<- HE.out];exact T1 hx)
       clear T1 T2
       have hx2:53<(len:Int)\/¬53<(len:Int)/\1023<high\/¬53<(len:Int)/\¬1023<high/\low2 < -1074:=by omega
       clear hx
       rcases hx2 with hx|⟨hx,hx3⟩|⟨hx,hx3,hx4⟩
       ·go_wp2_with fail
        go_ret2
        exact⟨by rw[E.out];rfl,rfl⟩
       ·go_wp2_with fail
        go_ret2
        exact⟨by rw[E.out];rfl,rfl⟩
       ·go_wp2_with fail
        go_ret2
        exact⟨by rw[E.out];rfl,rfl⟩
      ·obtain⟨q1,q2,q3,q4⟩:=T2 hx
       have hx1:¬53<(len:Int):=by omega
       have hx3:¬1023<high:=by omega
       have hx4:¬low2 < -1074:=by omega
       obtain⟨least,hleast⟩:∃least,leastI high=least:=⟨_,rfl⟩
       rw[hleast] at q1 q2 q3 q4
       have LE:=hid hleast
       obtain⟨N,hNN⟩:∃N,valB (1::t2)=N:=⟨_,rfl⟩
       have HNN:=hid hNN
       rw[hNN] at q2 q3 q4 HE
       obtain⟨K,hK⟩:∃K,(low2-least).toNat=K:=⟨_,rfl⟩
       rw[hK] at q2 q3 q4
       have KD:=hid (show low2-(K:Int)=least/\-1074<=low2/\low2<=1023+300 by
        have:(K:Int)=low2-least:=by omega
        omega)
       have KB:=hid q2
       have T3:=hid q3
       have T4:=hid q4
       have hs2:=HS2.out
       generalize hl2e:(1::t2:List Nat)=l2 at *
       clear T1 T2 q1 q2 q3 q4 hx hleast hNN hK hl2e HS2
       go_wp2_with fail
       go_loop [9,10] (λnv iv=>∃k:Nat,k<=len/\iv=.int .i64 k/\nv=.int .u64 ((valB (l2.take k):Nat):Int)) (λ_ iv=>len-(intOf iv).toNat)
       case atStart=>exact⟨0,z12z _,rfl,rfl⟩
       case round=>
        obtain⟨k,hk,rfl,rfl⟩:=hrel
        have hlt53:=valB_take_lt l2 hs2.bit k (by rw[hs2.size];omega)
        by_cases hkl:k<len
        ·have st:=valB_take l2 k (by rw[hs2.size];exact hkl)
         have hcell:=hs2.cell k hkl
         have hb1:l2.getD k 0<=1:=by
          rw[z13z,z19z (by rw[hs2.size];exact hkl)]
          exact hs2.bit _ (List.getElem_mem _)
         have HST:=hid (show ((valB (l2.take (k+1)):Nat):Int)=2*((valB (l2.take k):Nat):Int)+((l2.getD k 0:Nat):Int) by rw[st];omega)
         have b0:(0:Int)<=((l2.getD k 0:Nat):Int):=by omega
         have b1:((l2.getD k 0:Nat):Int)<=1:=by omega
         have v0:(0:Int)<=((valB (l2.take k):Nat):Int):=by omega
         have v1:((valB (l2.take k):Nat):Int)<9007199254740992:=by omega
         have HK:=hid hkl
         generalize ((l2.getD k 0:Nat):Int)=bb at *
         generalize ((valB (l2.take k):Nat):Int)=vv at *
         clear st hlt53 hb1
         go_wp2_with fail
         go_round
         case rel=>exact⟨k+1,HK.out,by go_num,by rw[HST.out]⟩
         case measure=>simp[intOf];omega
        ·have hkk:k=len:=by omega
         have hall:valB (l2.take k)=N:=by rw[hkk,<- hs2.size,List.take_length];exact HNN.out
         rw[hall] at hlt53 ⊢
         have hkl':¬ (k:Int)<(len:Int):=by omega
         clear hkk hkl hall
         by_cases hlc:high-52 < -1074
         ·have hle:least = -1074:=by rw[<- LE.out];unfold leastI;rw[if_pos hlc]
          subst hle
          go_wp2_with fail
          go_loop [2,9] (λlv nv=>∃ (k:Nat) (y:Int),k<=K/\lv=.int .i64 (low2-(k:Int))/\nv=.int .u64 y/\y=((N*2 ^ k:Nat):Int)) (λlv _=>(intOf lv-(-1074)).toNat)
          case atStart=>exact⟨0,_,z12z _,int_eq (by omega),rfl,by simp⟩
          case round=>
           obtain⟨k,y,hk,rfl,rfl,hy⟩:=hrel
           have HY:=hid hy
           have ylt:y<9007199254740992:=by
            have:N*2 ^ k<=N*2 ^ K:=Nat.mul_le_mul_left _ (z10z (by decide) hk)
            have:=KB.out
            omega
           have y0:0<=y:=by omega
           clear hy
           by_cases hkK:k<K
           ·have hgt:(-1074)<low2-(k:Int):=by have:=KD.out;omega
            have HN:=hid (show ((N*2 ^ (k+1):Nat):Int)=2*y by rw[HY.out,Nat.pow_succ,<- Nat.mul_assoc];omega)
            have k100:(k:Int)<200000:=by have:=KD.out;omega
            have HK:=hid hkK
            clear hkK
            go_wp2_with fail
            go_round
            case rel=>exact⟨k+1,2*y,HK.out,by go_num,by go_num,HN.out.symm⟩
            case measure=>simp[intOf];omega
           ·have hkk:k=K:=by omega
            have hle:¬ (-1074)<low2-(k:Int):=by have:=KD.out;omega
            have HYK:=hid (show y=((N*2 ^ K:Nat):Int) by rw[HY.out,hkk])
            clear hkK hkk
            by_cases hh:high < -1022
            ·have E:=hid (show exactP (valB L) low=some y by rw[<- HE.out,HYK.out];exact T3.out (by omega))
             have w1:z1z.wrap (sg+y)=sg+y:=by rw[z2z];rcases hsg with rfl|rfl <;> omega
             go_wp2_with fail
             go_ret2
             exact⟨by rw[E.out];rfl,rfl⟩
            ·obtain⟨t1,t2⟩:=T4.out (by omega)
             have E:=hid (show exactP (valB L) low=some ((high+1023)*4503599627370496+(y-4503599627370496)) by rw[<- HE.out,HYK.out];exact t2)
             have y52:4503599627370496<=y:=by have:=HYK.out;omega
             have w0:z1z.wrap (high+1023)=high+1023:=by rw[z2z];omega
             have w1:z1z.wrap ((high+1023)*4503599627370496)=(high+1023)*4503599627370496:=by rw[z2z];omega
             have w2:z1z.wrap (sg+(high+1023)*4503599627370496)=sg+(high+1023)*4503599627370496:=by rw[z2z];rcases hsg with rfl|rfl <;> omega
             have w3:z1z.wrap (sg+(high+1023)*4503599627370496+(y-4503599627370496))=sg+((high+1023)*4503599627370496+(y-4503599627370496)):=by rw[z2z];rcases hsg with rfl|rfl <;> omega
             clear t1 t2
             go_wp2_with fail
             go_ret2
             exact⟨by rw[E.out];exact ret_ii rfl rfl,rfl⟩
         ·have hle:high-52=least:=by rw[<- LE.out];unfold leastI;rw[if_neg hlc]
          go_wp2_with fail
          go_loop [2,9] (λlv nv=>∃ (k:Nat) (y:Int),k<=K/\lv=.int .i64 (low2-(k:Int))/\nv=.int .u64 y/\y=((N*2 ^ k:Nat):Int)) (λlv _=>(intOf lv-least).toNat)
          case atStart=>exact⟨0,_,z12z _,int_eq (by omega),rfl,by simp⟩
          case round=>
           obtain⟨k,y,hk,rfl,rfl,hy⟩:=hrel
           have HY:=hid hy
           have ylt:y<9007199254740992:=by
            have:N*2 ^ k<=N*2 ^ K:=Nat.mul_le_mul_left _ (z10z (by decide) hk)
            have:=KB.out
            omega
           have y0:0<=y:=by omega
           clear hy
           by_cases hkK:k<K
           ·have hgt:least<low2-(k:Int):=by have:=KD.out;omega
            have HN:=hid (show ((N*2 ^ (k+1):Nat):Int)=2*y by rw[HY.out,Nat.pow_succ,<- Nat.mul_assoc];omega)
            have k100:(k:Int)<200000:=by have:=KD.out;omega
            have HK:=hid hkK
            clear hkK
            go_wp2_with fail
            go_round
            case rel=>exact⟨k+1,2*y,HK.out,by go_num,by go_num,HN.out.symm⟩
            case measure=>simp[intOf];omega
           ·have hkk:k=K:=by omega
            have hle:¬least<low2-(k:Int):=by have:=KD.out;omega
            have HYK:=hid (show y=((N*2 ^ K:Nat):Int) by rw[HY.out,hkk])
            clear hkK hkk
            by_cases hh:high < -1022
            ·have E:=hid (show exactP (valB L) low=some y by rw[<- HE.out,HYK.out];exact T3.out (by omega))
             have w1:z1z.wrap (sg+y)=sg+y:=by rw[z2z];rcases hsg with rfl|rfl <;> omega
             go_wp2_with fail
             go_ret2
             exact⟨by rw[E.out];rfl,rfl⟩
            ·obtain⟨t1,t2⟩:=T4.out (by omega)
             have E:=hid (show exactP (valB L) low=some ((high+1023)*4503599627370496+(y-4503599627370496)) by rw[<- HE.out,HYK.out];exact t2)
             have y52:4503599627370496<=y:=by have:=HYK.out;omega
             have w0:z1z.wrap (high+1023)=high+1023:=by rw[z2z];omega
             have w1:z1z.wrap ((high+1023)*4503599627370496)=(high+1023)*4503599627370496:=by rw[z2z];omega
             have w2:z1z.wrap (sg+(high+1023)*4503599627370496)=sg+(high+1023)*4503599627370496:=by rw[z2z];rcases hsg with rfl|rfl <;> omega
             have w3:z1z.wrap (sg+(high+1023)*4503599627370496+(y-4503599627370496))=sg+((high+1023)*4503599627370496+(y-4503599627370496)):=by rw[z2z];rcases hsg with rfl|rfl <;> omega
             clear t1 t2
             go_wp2_with fail
             go_ret2
             exact⟨by rw[E.out];exact ret_ii rfl rfl,rfl⟩
def bitsOf(l:List UInt8):List Nat:=l.flatMap λc=>nib (hexV c).toNat
theorem bitsOf_snoc(l:List UInt8)(c:UInt8):bitsOf (l++[c])=bitsOf l++nib (hexV c).toNat:=by simp[bitsOf]
theorem bitsOf_append(l m:List UInt8):bitsOf (l++m)=bitsOf l++bitsOf m:=by simp[bitsOf]
theorem bitsOf_len(l:List UInt8):(bitsOf l).length=4*l.length:=by
 induction l with
 | nil=>rfl
 | cons c l ih=>
  have:bitsOf (c::l)=nib (hexV c).toNat++bitsOf l:=by simp[bitsOf]
  rw[this,z5z,ih,z3z]
  simp[nib];omega
theorem bitsOf_val(l:List UInt8):valB (bitsOf l)=valH l:=by
 have go:∀ (m:List UInt8),valB (bitsOf m.reverse)=valH m.reverse:=by
  intro m
  induction m with
  | nil=>rfl
  | cons c m ih=>
   rw[List.reverse_cons,bitsOf_snoc,valH_snoc]
   have:=valB_nibble (bitsOf m.reverse) (hexV c).toNat
   rw[show nib (hexV c).toNat=[(hexV c).toNat/8,(hexV c).toNat/4%2,(hexV c).toNat/2%2,(hexV c).toNat%2] from rfl,this,ih]
 have:=go l.reverse
 rw[List.reverse_reverse] at this
 exact this
theorem bitsOf_bit(l:List UInt8):∀b ∈ bitsOf l,b<=1:=by
 intro b hb
 simp only[bitsOf,List.mem_flatMap] at hb
 obtain⟨c,-,hb⟩:=hb
 have:=hexV_range c
 exact nib_bits _ (by omega) b hb
def seg(T:ByteArray)(a k:Nat):List UInt8:=(T.data.toList.drop a).take (k-a)
theorem seg_nil(T:ByteArray)(a:Nat):seg T a a=[]:=by simp[seg]
theorem seg_snoc(T:ByteArray)(a k:Nat)(h:a<=k)(hk:k<T.size):seg T a (k+1)=seg T a k++[T[k]]:=by
 unfold seg
 have h1:k-a<(T.data.toList.drop a).length:=by rw[z6z,size_list];omega
 rw[show k+1-a=(k-a)+1 by omega,z18z h1]
 congr 2
 rw[z17z]
 have:a+(k-a)=k:=by omega
 simp only[this]
 rfl
theorem seg_len(T:ByteArray)(a k:Nat)(h:a<=k)(hk:k<=T.size):(seg T a k).length=k-a:=by
 unfold seg
 rw[List.length_take,z6z,size_list]
 omega
structure Stop (T:ByteArray) (a e:Nat):Prop where
 le:a<=e
 size:e<=T.size
 hex:∀k (h:k<T.size),a<=k->k<e->0<=hexV T[k]
 no:∀h:e<T.size,hexV T[e] = -1
 take:(T.data.toList.drop a).takeWhile hexB=seg T a e
 drop:(T.data.toList.drop a).dropWhile hexB=T.data.toList.drop e
theorem tw_all(p:UInt8->Bool)(l:List UInt8):∀c ∈ l.takeWhile p,p c=true:=by
 induction l with
 | nil=>intro c hc;cases hc
 | cons a l ih=>
  intro c hc
  cases h:p a with
  | true=>
   rw[z14z,h,if_pos rfl] at hc
   rcases z11z.1 hc with rfl|hc
   ·exact h
   ·exact ih c hc
  | false=>rw[z14z,h] at hc;cases hc
theorem tw_take(p:UInt8->Bool)(l:List UInt8):l.take (l.takeWhile p).length=l.takeWhile p/\l.drop (l.takeWhile p).length=l.dropWhile p:=by
 induction l with
 | nil=>exact⟨rfl,rfl⟩
 | cons a l ih=>
  cases h:p a with
  | true=>
   rw[z14z,List.dropWhile_cons,h,if_pos rfl,if_pos rfl]
   simp only[z3z,List.take_succ_cons,List.drop_succ_cons]
   exact⟨by rw[ih.1],ih.2⟩
  | false=>
   rw[z14z,List.dropWhile_cons,h]
   exact⟨rfl,rfl⟩
theorem stop_at(T:ByteArray)(a:Nat)(ha:a<=T.size):∃e,Stop T a e:=by
 have hl:T.data.toList.length=T.size:=size_list T
 generalize hr:T.data.toList.drop a=r
 have hrl:r.length=T.size-a:=by rw[<- hr,z6z,hl]
 have ht:r=r.takeWhile hexB++r.dropWhile hexB:=List.takeWhile_append_dropWhile.symm
 have hle:(r.takeWhile hexB).length<=r.length:=by
  have:=congrArg List.length ht
  rw[z5z] at this
  omega
 refine⟨a+(r.takeWhile hexB).length,by omega,by omega,?_,?_,?_,?_⟩
 ·intro k h h1 h2
  have hk:k-a<(r.takeWhile hexB).length:=by omega
  have hm:=List.getElem_mem hk
  have hx:=tw_all hexB r _ hm
  have e1:(r.takeWhile hexB)[k-a]=r[k-a]'(by omega):=by
   have:r[k-a]'(by omega)=(r.takeWhile hexB++r.dropWhile hexB)[k-a]'(by rw[<- ht];omega):=by simp only[<- ht]
   rw[this,List.getElem_append_left hk]
  have e2:r[k-a]'(by omega)=T[k]:=by
   have:r[k-a]'(by omega)=(T.data.toList.drop a)[k-a]'(by rw[hr];omega):=by simp only[hr]
   rw[this,z17z]
   have h3:a+(k-a)=k:=by omega
   simp only[h3]
   rfl
  rw[e1,e2] at hx
  exact of_decide_eq_true hx
 ·intro h
  have hd:r.dropWhile hexB≠[]:=by
   intro e
   have:=congrArg List.length ht
   rw[e,List.append_nil] at this
   omega
  have hx:=List.head_dropWhile_not hexB (l:=r) hd
  have e1:(r.dropWhile hexB).head hd=T[a+(r.takeWhile hexB).length]:=by
   have h0:0<(r.dropWhile hexB).length:=List.length_pos_iff.2 hd
   rw[List.head_eq_getElem]
   have:(r.dropWhile hexB)[0]=(r.takeWhile hexB++r.dropWhile hexB)[(r.takeWhile hexB).length]'(by rw[z5z];omega):=by
    rw[List.getElem_append_right (z4z _)]
    simp
   rw[this]
   have:(r.takeWhile hexB++r.dropWhile hexB)[(r.takeWhile hexB).length]'(by rw[z5z];omega)=r[(r.takeWhile hexB).length]'(by omega):=by simp only[<- ht]
   rw[this]
   have:r[(r.takeWhile hexB).length]'(by omega)=(T.data.toList.drop a)[(r.takeWhile hexB).length]'(by rw[hr];omega):=by simp only[hr]
   rw[this,z17z]
   rfl
  rw[e1] at hx
  have hr1:=hexV_range T[a+(r.takeWhile hexB).length]
  have:¬0<=hexV T[a+(r.takeWhile hexB).length]:=by
   intro h2
   rw[hex_some h2] at hx
   cases hx
  omega
 ·unfold seg
  rw[hr,show a+(r.takeWhile hexB).length-a=(r.takeWhile hexB).length by omega]
  exact(tw_take hexB r).1.symm
 ·rw[<- List.drop_drop,hr]
  exact(tw_take hexB r).2.symm
theorem drop_two(T:ByteArray)(k:Nat)(h:k+1<T.size):T.data.toList.drop k=T[k]::T[k+1]::T.data.toList.drop (k+2):=by
 rw[z15z (by rw[size_list];omega),z15z (by rw[size_list];omega)]
 rfl
theorem pow_short(T:ByteArray)(k:Nat)(h:T.size<=k+1):powR (T.data.toList.drop k)=none:=by
 have hl:(T.data.toList.drop k).length<=1:=by rw[z6z,size_list];omega
 refine powR_no _ ?_ ?_ <;> (intro d e;rw[e] at hl;simp at hl)
theorem pow_noP(T:ByteArray)(k:Nat)(h:k+1<T.size)(hp:T[k]≠112):powR (T.data.toList.drop k)=none:=by
 rw[drop_two T k h]
 refine powR_no _ ?_ ?_ <;> (intro d e;injection e with e1;exact hp e1)
theorem pow_noSign(T:ByteArray)(k:Nat)(h:k+1<T.size)(h1:T[k+1]≠43)(h2:T[k+1]≠45):powR (T.data.toList.drop k)=none:=by
 rw[drop_two T k h]
 refine powR_no _ ?_ ?_ <;> (intro d e;injection e with e1 e2;injection e2 with e3;first|exact h1 e3|exact h2 e3)
theorem pow_ds(T:ByteArray)(k:Nat)(h:k+1<T.size)(hp:T[k]=112)(hs:T[k+1]=43\/T[k+1]=45) :
  powR (T.data.toList.drop k)=if allD (T.data.toList.drop (k+2))=true/\(T.data.toList.drop (k+2)).length<=5 then some (if T[k+1]=45 then -(valD (T.data.toList.drop (k+2)):Int) else valD (T.data.toList.drop (k+2))) else none:=by
 rw[drop_two T k h,hp]
 exact powR_ok _ _ hs
theorem seg_all(T:ByteArray)(a:Nat):seg T a T.size=T.data.toList.drop a:=by
 unfold seg
 exact List.take_of_length_le (by rw[z6z,size_list];omega)
theorem seg_val(T:ByteArray)(a k:Nat)(h:a<=k)(hk:k<T.size):valD (seg T a (k+1))=10*valD (seg T a k)+(T[k].toNat-48):=by
 rw[seg_snoc T a k h hk,valD_snoc]
theorem seg_dig(T:ByteArray)(a k:Nat)(h:a<=k)(hk:k<T.size)(hd:digB T[k]=true)(ha:(seg T a k).all digB=true):(seg T a (k+1)).all digB=true:=by
 rw[seg_snoc T a k h hk,List.all_append,ha]
 simp[hd]
theorem seg_not(T:ByteArray)(a k:Nat)(h:a<=k)(hk:k<T.size)(hd:digB T[k]=false):allD (T.data.toList.drop a)=false:=by
 have hm:T[k] ∈ T.data.toList.drop a:=by
  rw[<- List.take_append_drop (k+1-a) (T.data.toList.drop a)]
  have:=seg_snoc T a k h hk
  unfold seg at this
  rw[this];simp
 have e:(T.data.toList.drop a).all digB=false:=by
  rw[List.all_eq_false]
  exact⟨T[k],hm,by rw[hd];decide⟩
 unfold allD
 rw[e,Bool.and_false]
theorem seg_small(T:ByteArray)(a k:Nat)(ha:(seg T a k).all digB=true)(hl:(seg T a k).length<=5):valD (seg T a k)<100000:=by
 have h2:=valD_le (seg T a k) (λc hc=>of_decide_eq_true (List.all_eq_true.1 ha c hc))
 have h3:10 ^ (seg T a k).length<=10 ^ 5:=z10z (by decide) hl
 have h4:(10:Nat) ^ 5=100000:=by decide
 omega
theorem body_mark(T:ByteArray)(h2:1<T.size)(h0:T[0]=48)(h1:T[1]=120):bodyR T.data.toList=readBody (T.data.toList.drop 2):=by
 have:=drop_two T 0 h2
 rw[List.drop_zero,h0] at this
 rw[this]
 have h1':T[0+1]=120:=h1
 rw[h1']
 rfl
theorem body_noMark(T:ByteArray)(h:T.size<2\/∃h:1<T.size,T[0]≠48\/T[1]≠120):bodyR T.data.toList=none:=by
 unfold bodyR
 split
 ·rename_i r e
  have hl:=congrArg List.length e
  rw[size_list] at hl
  simp only[z3z] at hl
  rcases h with h|⟨h,g⟩
  ·omega
  ·have hd:=drop_two T 0 h
   rw[List.drop_zero,e] at hd
   injection hd with e1 e2
   injection e2 with e3
   rcases g with g|g
   ·exact absurd e1.symm g
   ·exact absurd e3.symm g
 ·rfl
theorem body_none(T:ByteArray)(e:Nat)(hs:Stop T 2 e)(h:e=2):readBody (T.data.toList.drop 2)=none:=by
 unfold readBody
 rw[hs.take,h,seg_nil,if_pos rfl]
theorem seg_ne(T:ByteArray)(a e:Nat)(hs:Stop T a e)(h:e≠a):seg T a e≠[]:=by
 intro g
 have:=seg_len T a e hs.le hs.size
 rw[g] at this
 have:=hs.le
 simp at *
 omega
theorem body_plain(T:ByteArray)(e:Nat)(hs:Stop T 2 e)(h:e≠2)(hd:∀h:e<T.size,T[e]≠46):readBody (T.data.toList.drop 2)=readPow (valH (seg T 2 e)) 0 (T.data.toList.drop e):=by
 unfold readBody
 rw[hs.take,hs.drop,if_neg (seg_ne T 2 e hs h)]
 split
 ·rename_i r1 g
  have hl:=congrArg List.length g
  rw[z6z,size_list] at hl
  simp only[z3z] at hl
  have he:e<T.size:=by omega
  rw[z15z (by rw[size_list];exact he)] at g
  injection g with g1 g2
  exact absurd g1 (hd he)
 ·rfl
theorem body_point(T:ByteArray)(e f:Nat)(hs:Stop T 2 e)(h:e≠2)(he:e<T.size)(hd:T[e]=46)(hf:Stop T (e+1) f) :
  readBody (T.data.toList.drop 2)=if f=e+1 then none else readPow (valH (seg T 2 e++seg T (e+1) f)) (f-(e+1)) (T.data.toList.drop f):=by
 unfold readBody
 rw[hs.take,hs.drop,if_neg (seg_ne T 2 e hs h)]
 have g:T.data.toList.drop e=46::T.data.toList.drop (e+1):=by
  rw[z15z (by rw[size_list];exact he)]
  have:T.data.toList[e]'(by rw[size_list];exact he)=T[e]:=rfl
  rw[this,hd]
 rw[g]
 simp only[hf.take,hf.drop]
 by_cases q:f=e+1
 ·rw[if_pos q,q,seg_nil,if_pos rfl]
 ·rw[if_neg q,if_neg (seg_ne T (e+1) f hf q),seg_len T (e+1) f hf.le hf.size]
theorem lt48b(c:UInt8):digB c=(!(decide ((c.toNat:Int)<48)||decide (57<(c.toNat:Int)))):=by
 unfold digB
 rw[z7z]
 simp only[decide_eq_true_eq,Bool.not_eq_true',Bool.or_eq_false_iff,decide_eq_false_iff_not]
 omega
def exN(sg:Int)(o:Option Int):Int × Int:=match o with|none=>(0,21)|some a=>(sg+a,0)
theorem ansX_exN(sg:Int)(o:Option Int):ansX sg o=.tuple #[.int .u64 (exN sg o).1,.int .i64 (exN sg o).2]:=by cases o <;> rfl
theorem ansF_exN(sg:Int)(N:Nat)(low:Int):ansF sg (some (N,low))=exN sg (exactP N low):=by
 cases h:exactP N low with
 | none=>simp only[ansF,h,exN]
 | some a=>simp only[ansF,h,exN]
end Go.Proofs.YtknkedihmmbanaaDoor.W

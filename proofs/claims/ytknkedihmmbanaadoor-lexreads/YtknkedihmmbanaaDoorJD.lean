import Derived.Test.YtknkedihmmbanaaDoorJA
import Derived.Test.YtknkedihmmbanaaDoorJC
import Derived.Below
import Derived.WalkSmall
import Derived.Lib.LaidTab
import Derived.Test.YtknkedihmmbanaaDoorShelf
import Derived.Sort.Grow
open List renaming take_append_drop → z5z, isPrefixOf → z6z
open Nat renaming zero_le → z3z
open Bool renaming and_eq_true → z2z
open Int renaming tdiv_eq_ediv_of_nonneg → z4z
open Go.Lib renaming hasPrefix → z0z, trimPrefix → z1z
open Go.Proofs.Tryd
set_option maxRecDepth 1000000
set_option maxHeartbeats 8000000
namespace Go.Proofs.YtknkedihmmbanaaDoor.W
open Go.ChangeShapes Go.WideShapes Go.RowKit
theorem bel_trans{a b c:World}(h:Below a.heap.size a b)(k:Below b.heap.size b c):Below a.heap.size a c:=h.trans (k.mono h.size)
def Tabs(w:World):Prop:=∀j,j<Lib.deBruijn64tab.length->w.cell? ⟨1,j,none⟩=some (.int .u8 (Lib.deBruijn64tab.getD j 0))
theorem Tabs.below{w w':World}(h2:Tabs w)(hb:Below w.heap.size w w'):Tabs w':=by
 intro j hj
 have lt:1<w.heap.size:=by
  apply Nat.lt_of_not_le
  intro hle
  have e:w.heap[1]? = none:=Array.getElem?_eq_none hle
  have:=h2 j hj
  simp only[World.cell?,e] at this
  cases this
 rw[hb.cell lt]
 exact h2 j hj
theorem ret_ib{k:IntKind}{a a':Int}{b b':Bool}(h:a=a')(g:b=b'):Ending.returned (.tuple #[.int k a,.bool b])=.returned (.tuple #[.int k a',.bool b']):=by rw[h,g]
theorem int_eq{k:IntKind}{a b:Int}(h:a=b):Value.int k a=Value.int k b:=by rw[h]
theorem take_snoc(s:ByteArray)(k:Nat)(h:k<s.size):s.data.toList.take (k+1)=s.data.toList.take k++[s[k]]:=by
 rw[List.take_succ_eq_append_getElem (by simpa using h)];rfl
theorem take_all(s:ByteArray)(k:Nat)(h:¬k<s.size):s.data.toList.take k=s.data.toList:=List.take_of_length_le (by simp;omega)
theorem size_list(s:ByteArray):s.data.toList.length=s.size:=by simp
theorem hasPrefix_c(s p:ByteArray)(w:World) :
  Calls prog 58 #[.string s,.string p] w λe w'=>e=.returned (.bool (z0z s.data.toList p.data.toList))/\w'=w:=Tryd.strings_HasPrefix s p w
theorem cutPrefix_c(s p:ByteArray)(w:World) :
  Calls prog 41 #[.string s,.string p] w λe w'=>e=.returned (.tuple #[.string ⟨(z1z s.data.toList p.data.toList).toArray⟩,.bool (z0z s.data.toList p.data.toList)])/\w'=w:=Tryd.strings_CutPrefix s p w
theorem indexHex_c(c:UInt8)(w:World) :
  Calls prog 66 #[.string ⟨#[48,49,50,51,52,53,54,55,56,57,97,98,99,100,101,102]⟩,.int .u8 c.toNat] w λe w'=>e=.returned (.int .i64 (hexV c))/\w'=w:=by
 have h:=Tryd.strings_IndexByte ⟨#[48,49,50,51,52,53,54,55,56,57,97,98,99,100,101,102]⟩ (c.toNat:Int) w
 have e:Lib.indexByte (⟨#[48,49,50,51,52,53,54,55,56,57,97,98,99,100,101,102]⟩:ByteArray).data.toList ((c.toNat:Int).toNat.toUInt8)=hexV c:=by
  have e1:((c.toNat:Int).toNat.toUInt8)=c:=by simp
  rw[e1]
  exact index_hex c
 rw[e] at h
 exact h
theorem len64_c(x:Int)(h0:0<x)(h1:x<18446744073709551616)(w:World) :
  Calls prog 45 #[.int .u64 x] w λe w'=>e=.returned (.int .i64 (x.toNat.log2+1))/\w'=w:=by
 refine(Tryd.bits_Len64 x w (by omega) (by omega)).mono ?_
 rintro e w' ⟨rfl,rfl⟩
 exact⟨by rw[bitLen_log _ (by omega) (by omega)];rfl,rfl⟩
theorem ctz_c(x:Int)(h0:0<x)(h1:x<18446744073709551616)(w:World)(ht:Tabs w) :
  Calls prog 44 #[.int .u64 x] w λe w'=>e=.returned (.int .i64 (twos x.toNat))/\w'=w:=by
 obtain⟨n,rfl⟩:=Int.eq_ofNat_of_zero_le (Int.le_of_lt h0)
 refine(Tryd.bits_TrailingZeros64 n (by omega) w (λ_=>ht)).mono ?_
 rintro e w' ⟨rfl,rfl⟩
 exact⟨by rw[ctz_twos _ (by omega) (by omega)];rfl,rfl⟩
def allD(l:List UInt8):Bool:=!l.isEmpty&&l.all digB
theorem isDecimal_c(c:UInt8)(w:World) :
  Calls prog 82 #[.int .u8 c.toNat] w λe w'=>e=.returned (.bool (digB c))/\w'=w:=by
 go_enter func82,ntmps82
 go_wp2
 all_goals (go_ret;refine⟨ret_bool ?_,rfl⟩;simp only[digB];rw[Bool.eq_iff_iff];simp only[decide_eq_true_eq,Bool.false_eq_true,false_iff];omega)
theorem all_step(s:ByteArray)(k:Nat)(h:k<s.size)(hd:digB s[k]=true)(ha:(s.data.toList.take k).all digB=true):(s.data.toList.take (k+1)).all digB=true:=by
 rw[take_snoc s k h,List.all_append,ha]
 simp[hd]
theorem all_not(s:ByteArray)(k:Nat)(h:k<s.size)(hd:digB s[k]=false):allD s.data.toList=false:=by
 have e:s.data.toList.all digB=false:=by
  rw[List.all_eq_false]
  exact⟨s[k],by rw[<- z5z (k+1) s.data.toList,take_snoc s k h];simp,by rw[hd];decide⟩
 unfold allD
 rw[e,Bool.and_false]
theorem toList_eq(s:ByteArray):s.toList=s.data.toList:=ByteArray.toList_eq s
theorem allDecimal_c(s:ByteArray)(hs:s.size<=maxLen)(w:World) :
  Calls prog 68 #[.string s] w λe w'=>e=.returned (.bool (allD s.data.toList))/\w'=w:=by
 unfold maxLen at hs
 go_enter func68,ntmps68
 go_wp2_with fail
 go_loop [6] (λi=>∃k:Nat,k<=s.size/\i=.int .i64 k/\(s.data.toList.take k).all digB=true) (λi=>s.size-(intOf i).toNat)
 case atStart=>exact⟨0,z3z _,rfl,rfl⟩
 case round=>
  obtain⟨k,hk,rfl,ha⟩:=hrel
  by_cases hlt:k<s.size
  ·cases hd:digB s[k] with
   | true=>
    have R:=hid (all_step s k hlt hd ha)
    clear ha
    go_wp2_with (go_at_call 82;refine(isDecimal_c _ _).mono ?_;rintro e w' ⟨rfl,rfl⟩)
    go_round
    case rel=>exact⟨k+1,hlt,by go_num,R.out⟩
    case measure=>simp[intOf];omega
   | false=>
    have R:=hid (all_not s k hlt hd)
    clear ha
    go_wp2_with (go_at_call 82;refine(isDecimal_c _ _).mono ?_;rintro e w' ⟨rfl,rfl⟩)
    go_ret
    exact⟨ret_bool R.out.symm,rfl⟩
  ·rw[take_all s k hlt] at ha
   have R:=hid (show allD s.data.toList = !s.toList.isEmpty by unfold allD;rw[ha,toList_eq,Bool.and_true])
   clear ha
   go_wp2_with fail
   go_ret
   exact⟨ret_bool R.out.symm,rfl⟩
theorem valD_take(l:List UInt8)(k:Nat):valD (l.take k)<=valD l:=by
 have e:valD l=valD (l.take k)*10 ^ (l.drop k).length+valD (l.drop k):=by
  have:valD l=valD (l.take k++l.drop k):=by rw[z5z]
  rw[this]
  unfold valD
  rw[List.foldl_append,foldD]
  rfl
 have p:1<=10 ^ (l.drop k).length:=Nat.one_le_pow _ _ (by decide)
 have:valD (l.take k)*1<=valD (l.take k)*10 ^ (l.drop k).length:=Nat.mul_le_mul_left _ p
 omega
theorem valD_step(s:ByteArray)(k:Nat)(h:k<s.size):valD (s.data.toList.take (k+1))=10*valD (s.data.toList.take k)+(s[k].toNat-48):=by
 rw[take_snoc s k h,valD_snoc]
theorem dig_at(s:ByteArray)(h:s.data.toList.all digB=true)(k:Nat)(hk:k<s.size):48<=s[k].toNat/\s[k].toNat<=57:=by
 have:=List.all_eq_true.1 h s[k] (by rw[<- z5z (k+1) s.data.toList,take_snoc s k hk];simp)
 exact of_decide_eq_true this
def limI(m:Bool):Int:=if m=true then 9223372036854775808 else 9223372036854775807
def valI(m:Bool)(d:List UInt8):Int × Int:=if (valD d:Int)<=limI m then ((if m=true then -(valD d:Int) else valD d),0) else (0,13)
theorem readD_val(m:Bool)(d:List UInt8)(h:formI m d=true):readD m d=valI m d:=by
 unfold readD valI limI
 rw[if_pos h]
 cases m
 ·simp only[Bool.false_eq_true,if_false]
  by_cases g:valD d<9223372036854775808
  ·rw[if_pos g,if_pos (by omega)]
  ·rw[if_neg g,if_neg (by omega)]
 ·simp only[if_true]
  by_cases g:valD d<=9223372036854775808
  ·rw[if_pos g,if_pos (by omega)]
  ·rw[if_neg g,if_neg (by omega)]
theorem sub48(c:UInt8)(h:48<=c.toNat/\c.toNat<=57):IntKind.u64.wrap (IntKind.u8.wrap ((c.toNat:Int)-48))=(c.toNat:Int)-48:=by
 rw[IntKind.wrap_u8,IntKind.wrap_u64];omega
theorem signedValue_c(s:ByteArray)(m:Bool)(hs:s.size<=maxLen)(hd:s.data.toList.all digB=true)(w:World) :
  Calls prog 74 #[.string s,.bool m] w λe w'=>e=.returned (.tuple #[.int .i64 (valI m s.data.toList).1,.int .i64 (valI m s.data.toList).2])/\w'=w:=by
 unfold maxLen at hs
 have HD:=hid hd
 clear hd
 cases m with
 | false=>
  go_enter func74,ntmps74
  go_wp2_with fail
  go_loop [7,15] (λv i=>∃k:Nat,k<=s.size/\i=.int .i64 k/\v=.int .u64 (valD (s.data.toList.take k))/\(valD (s.data.toList.take k):Int)<=9223372036854775807) (λ_ i=>s.size-(intOf i).toNat)
  case atStart=>exact⟨0,z3z _,rfl,rfl,by simp[valD]⟩
  case round=>
   obtain⟨k,hk,rfl,rfl,hv⟩:=hrel
   by_cases hlt:k<s.size
   ·obtain⟨d0,d1⟩:=dig_at s HD.out k hlt
    have st:=valD_step s k hlt
    have HT:=hid (valD_take s.data.toList (k+1))
    have e1:=sub48 s[k] ⟨d0,d1⟩
    by_cases hf:(valD (s.data.toList.take (k+1)):Int)<=9223372036854775807
    ·have HS:=hid st
     have e3:¬ (9223372036854775807-((s[k].toNat:Int)-48)).tdiv 10<(valD (s.data.toList.take k):Int):=by rw[z4z (by omega)];omega
     have e3':¬ (9223372036854775807-((s[k].toNat:Int)-48))/10<(valD (s.data.toList.take k):Int):=by omega
     have HF:=hid hf
     clear st hf
     go_wp2_with fail
     go_round
     case rel=>exact⟨k+1,hlt,by go_num,int_eq (by have:=HS.out;have:=HF.out;go_num),HF.out⟩
     case measure=>simp[intOf];omega
    ·have e3:(9223372036854775807-((s[k].toNat:Int)-48)).tdiv 10<(valD (s.data.toList.take k):Int):=by rw[z4z (by omega)];omega
     have e3':(9223372036854775807-((s[k].toNat:Int)-48))/10<(valD (s.data.toList.take k):Int):=by omega
     have HF:=hid hf
     clear st hf
     go_wp2_with fail
     go_ret2
     have E:valI false s.data.toList=(0,13):=by
      have:=HT.out
      have:=HF.out
      unfold valI limI
      rw[if_neg (by simp;omega)]
     exact⟨ret_ii (by rw[E]) (by rw[E]),rfl⟩
   ·rw[take_all s k hlt] at hv ⊢
    have HV:=hid hv
    clear hv
    go_wp2_with fail
    go_ret2
    have E:valI false s.data.toList=((valD s.data.toList:Int),0):=by
     have:=HV.out
     unfold valI limI
     rw[if_pos (by simp;omega)]
     rfl
    have:=HV.out
    exact⟨ret_ii (by rw[E];simp only[wrap64];omega) (by rw[E]),rfl⟩
 | true=>
  go_enter func74,ntmps74
  go_wp2_with fail
  go_loop [7,15] (λv i=>∃k:Nat,k<=s.size/\i=.int .i64 k/\v=.int .u64 (valD (s.data.toList.take k))/\(valD (s.data.toList.take k):Int)<=9223372036854775808) (λ_ i=>s.size-(intOf i).toNat)
  case atStart=>exact⟨0,z3z _,rfl,rfl,by simp[valD]⟩
  case round=>
   obtain⟨k,hk,rfl,rfl,hv⟩:=hrel
   by_cases hlt:k<s.size
   ·obtain⟨d0,d1⟩:=dig_at s HD.out k hlt
    have st:=valD_step s k hlt
    have HT:=hid (valD_take s.data.toList (k+1))
    have e1:=sub48 s[k] ⟨d0,d1⟩
    by_cases hf:(valD (s.data.toList.take (k+1)):Int)<=9223372036854775808
    ·have HS:=hid st
     have e3:¬ (9223372036854775808-((s[k].toNat:Int)-48)).tdiv 10<(valD (s.data.toList.take k):Int):=by rw[z4z (by omega)];omega
     have e3':¬ (9223372036854775808-((s[k].toNat:Int)-48))/10<(valD (s.data.toList.take k):Int):=by omega
     have HF:=hid hf
     clear st hf
     go_wp2_with fail
     go_round
     case rel=>exact⟨k+1,hlt,by go_num,int_eq (by have:=HS.out;have:=HF.out;go_num),HF.out⟩
     case measure=>simp[intOf];omega
    ·have e3:(9223372036854775808-((s[k].toNat:Int)-48)).tdiv 10<(valD (s.data.toList.take k):Int):=by rw[z4z (by omega)];omega
     have e3':(9223372036854775808-((s[k].toNat:Int)-48))/10<(valD (s.data.toList.take k):Int):=by omega
     have HF:=hid hf
     clear st hf
     go_wp2_with fail
     go_ret2
     have E:valI true s.data.toList=(0,13):=by
      have:=HT.out
      have:=HF.out
      unfold valI limI
      rw[if_neg (by simp;omega)]
     exact⟨ret_ii (by rw[E]) (by rw[E]),rfl⟩
   ·rw[take_all s k hlt] at hv ⊢
    have HV:=hid hv
    clear hv
    go_wp2_with fail
    go_ret2
    have E:valI true s.data.toList=(-(valD s.data.toList:Int),0):=by
     have:=HV.out
     unfold valI limI
     rw[if_pos (by simp;omega)]
     rfl
    have:=HV.out
    exact⟨ret_ii (by rw[E];simp only[wrap64,IntKind.wrap_u64];omega) (by rw[E]),rfl⟩
def rest1(l:List UInt8):List UInt8:=match l with|45::d=>d|d=>d
def minus1(l:List UInt8):Bool:=match l with|45::_=>true|_=>false
theorem rest_not(l:List UInt8)(h:∀d,l=45::d->False):minus1 l=false/\rest1 l=l:=by
 unfold minus1 rest1
 constructor
 ·split
  ·rename_i e;exact(h _ rfl).elim
  ·rfl
 ·split
  ·rename_i e;exact(h _ rfl).elim
  ·rfl
theorem readI_rest(l:List UInt8)(h:l.length<=64):readI l=readD (minus1 l) (rest1 l):=by
 unfold readI
 rw[if_neg (by omega)]
 split
 ·rfl
 ·rename_i hn
  obtain⟨e1,e2⟩:=rest_not l hn
  rw[e1,e2]
theorem form_rest(l:List UInt8):formI (minus1 l) (rest1 l)=(allD (rest1 l) && !((rest1 l).head? == some 48 && !(l==[48]))):=by
 unfold formI allD
 congr 2
 cases l with
 | nil=>rfl
 | cons c r=>
  by_cases h:c=45
  ·subst h
   have e:((45::r:List UInt8)==[48])=false:=by rw[beq_eq_false_iff_ne];intro e;injection e with e1 e2;revert e1;decide
   show (r.head? == some 48&&(decide (1<r.length)||true))=_
   rw[e,Bool.or_true]
   rfl
  ·have e1:rest1 (c::r)=c::r:=by
    unfold rest1
    split
    ·rename_i e1;injection e1 with e2 e3;exact absurd e2 h
    ·rfl
   have e2:minus1 (c::r)=false:=by
    unfold minus1
    split
    ·rename_i e1;injection e1 with e2 e3;exact absurd e2 h
    ·rfl
   rw[e1,e2,Bool.or_false]
   cases hc:((c::r).head? == some 48) with
   | false=>rfl
   | true=>
    simp only[List.head?_cons] at hc
    have:c=48:=by simpa using hc
    subst this
    cases r with
    | nil=>rfl
    | cons d r=>simp
theorem rest_len(l:List UInt8):(rest1 l).length<=l.length:=by
 unfold rest1
 split <;> simp
theorem cutMinus_c(s:ByteArray)(w:World) :
  Calls prog 41 #[.string s,.string ⟨#[45]⟩] w λe w'=>e=.returned (.tuple #[.string ⟨(rest1 s.data.toList).toArray⟩,.bool (minus1 s.data.toList)])/\w'=w:=by
 obtain⟨p1,p2⟩:=prefix_minus s.data.toList
 have h:=cutPrefix_c s ⟨#[45]⟩ w
 have e1:z0z s.data.toList (⟨#[45]⟩:ByteArray).data.toList=minus1 s.data.toList:=p1
 have e2:z1z s.data.toList (⟨#[45]⟩:ByteArray).data.toList=rest1 s.data.toList:=p2
 rw[e1,e2] at h
 exact h
theorem head_at(D:ByteArray)(h:0<D.size):(D.data.toList.head? == some 48)=((D[0].toNat:Int)==48):=by
 obtain⟨⟨l⟩⟩:=D
 cases l with
 | nil=>exact absurd h (by decide)
 | cons c r=>
  show (some c==some 48)=((c.toNat:Int)==48)
  rw[Bool.eq_iff_iff,beq_iff_eq,beq_iff_eq]
  constructor
  ·intro e;injection e with e;subst e;rfl
  ·intro e
   congr 1
   apply UInt8.toNat_inj.1
   have:c.toNat=48:=by omega
   rw[this];rfl
theorem parseInt_core(s D:ByteArray)(m:Bool)(x e:Int)(w:World)(h64:s.size<=64)(hD:D.size<=64)
  (hcut:∀w,Calls prog 41 #[.string s,.string ⟨#[45]⟩] w λe w'=>e=.returned (.tuple #[.string D,.bool m])/\w'=w)
  (hR:(allD D.data.toList=false/\x=0/\e=20)\/(allD D.data.toList=true/\0<D.size/\((∃h:0<D.size,((D[0].toNat:Int)==48)=true)/\(s.toList==[48])=false/\x=0/\e=20 \/
   ((∃h:0<D.size,((D[0].toNat:Int)==48)=false)\/(∃h:0<D.size,((D[0].toNat:Int)==48)=true)/\(s.toList==[48])=true)/\x=(valI m D.data.toList).1/\e=(valI m D.data.toList).2))) :
  Calls prog 61 #[.string s] w λr w'=>r=.returned (.tuple #[.int .i64 x,.int .i64 e])/\w'=w:=by
 have ml:D.size<=maxLen:=by unfold maxLen;omega
 rcases hR with⟨h1,rfl,rfl⟩|⟨h1,hp,⟨⟨_,h2⟩,h3,rfl,rfl⟩|⟨⟨_,h2⟩|⟨⟨_,h2⟩,h3⟩,rfl,rfl⟩⟩
 ·go_enter func61,ntmps61
  go_wp2_with (first|(go_at_call 41;refine(hcut _).mono ?_;rintro e w' ⟨rfl,rfl⟩)|(go_at_call 68;refine(allDecimal_c _ ml _).mono ?_;rintro e w' ⟨rfl,rfl⟩))
  go_ret2
  exact⟨rfl,rfl⟩
 ·go_enter func61,ntmps61
  go_wp2_with (first|(go_at_call 41;refine(hcut _).mono ?_;rintro e w' ⟨rfl,rfl⟩)|(go_at_call 68;refine(allDecimal_c _ ml _).mono ?_;rintro e w' ⟨rfl,rfl⟩))
  go_ret2
  exact⟨rfl,rfl⟩
 ·have hd:D.data.toList.all digB=true:=by unfold allD at h1;rw[z2z] at h1;exact h1.2
  have c:=signedValue_c D m ml hd
  clear hd
  go_enter func61,ntmps61
  go_wp2_with (first|(go_at_call 41;refine(hcut _).mono ?_;rintro e w' ⟨rfl,rfl⟩)|(go_at_call 68;refine(allDecimal_c _ ml _).mono ?_;rintro e w' ⟨rfl,rfl⟩)|(go_at_call 74;refine(c _).mono ?_;rintro e w' ⟨rfl,rfl⟩))
  go_ret2
  exact⟨rfl,rfl⟩
 ·have hd:D.data.toList.all digB=true:=by unfold allD at h1;rw[z2z] at h1;exact h1.2
  have c:=signedValue_c D m ml hd
  clear hd
  go_enter func61,ntmps61
  go_wp2_with (first|(go_at_call 41;refine(hcut _).mono ?_;rintro e w' ⟨rfl,rfl⟩)|(go_at_call 68;refine(allDecimal_c _ ml _).mono ?_;rintro e w' ⟨rfl,rfl⟩)|(go_at_call 74;refine(c _).mono ?_;rintro e w' ⟨rfl,rfl⟩))
  go_ret2
  exact⟨rfl,rfl⟩
theorem parseInt_c(s:ByteArray)(hs:s.size<=maxLen)(w:World) :
  Calls prog 61 #[.string s] w λe w'=>e=.returned (.tuple #[.int .i64 (readI s.data.toList).1,.int .i64 (readI s.data.toList).2])/\w'=w:=by
 unfold maxLen at hs
 have sl:=size_list s
 by_cases c:s.size<=64
 ·have er:=readI_rest s.data.toList (by omega)
  have ef:=form_rest s.data.toList
  have rl:=rest_len s.data.toList
  have hc:=cutMinus_c s
  obtain⟨D,hD⟩:∃D:ByteArray,D=⟨(rest1 s.data.toList).toArray⟩:=⟨_,rfl⟩
  have hDl:D.data.toList=rest1 s.data.toList:=by rw[hD]
  have hDs:=size_list D
  rw[<- hD] at hc
  rw[<- hDl] at ef er rl
  refine parseInt_core s D _ _ _ w c (by omega) hc ?_
  rw[er]
  cases ha:allD D.data.toList with
  | false=>
   rw[ha,Bool.false_and] at ef
   unfold readD
   rw[if_neg (by rw[ef];decide)]
   exact Or.inl ⟨rfl,rfl,rfl⟩
  | true=>
   have hp:0<D.size:=by
    unfold allD at ha
    rw[z2z] at ha
    have:D.data.toList≠[]:=by simpa using ha.1
    have:=List.length_pos_iff.2 this
    omega
   rw[ha,Bool.true_and,head_at D hp] at ef
   have es:(s.toList==[48])=(s.data.toList==[48]):=by rw[toList_eq]
   refine Or.inr ⟨rfl,hp,?_⟩
   rw[es]
   cases hh:((D[0].toNat:Int)==48) with
   | false=>
    rw[hh] at ef
    rw[readD_val _ _ ef]
    exact Or.inr ⟨Or.inl ⟨hp,hh⟩,rfl,rfl⟩
   | true=>
    cases h0:(s.data.toList==[48]) with
    | true=>
     rw[hh,h0] at ef
     rw[readD_val _ _ ef]
     exact Or.inr ⟨Or.inr ⟨⟨hp,hh⟩,rfl⟩,rfl,rfl⟩
    | false=>
     rw[hh,h0] at ef
     unfold readD
     rw[if_neg (by rw[ef];decide)]
     exact Or.inl ⟨⟨hp,hh⟩,rfl,rfl,rfl⟩
 ·have E:readI s.data.toList=(0,2):=by unfold readI;rw[if_pos (by omega)]
  have H:=hid E
  clear E
  go_enter func61,ntmps61
  go_wp2_with fail
  go_ret2
  exact⟨ret_ii (by rw[H.out]) (by rw[H.out]),rfl⟩
theorem prefix_two(l:List UInt8)(a b:UInt8):(z0z l [a,b]=true/\l=a::b::z1z l [a,b])\/(z0z l [a,b]=false/\z1z l [a,b]=l/\∀r,l≠a::b::r):=by
 unfold z1z z0z
 by_cases h:∃r,l=a::b::r
 ·obtain⟨r,rfl⟩:=h
  refine Or.inl ⟨by simp[z6z],?_⟩
  simp[z6z]
 ·refine Or.inr ?_
  have e:z6z [a,b] l=false:=by
   rw[Bool.eq_false_iff]
   intro e
   rw[List.isPrefixOf_iff_prefix] at e
   obtain⟨r,hr⟩:=e
   exact h ⟨r,hr.symm⟩
  rw[e]
  exact⟨rfl,rfl,λr hr=>h ⟨r,hr⟩⟩
def powR(r:List UInt8):Option Int:=
 match r with
 | 112::sg::ds=>if (sg=43\/sg=45)/\ds≠[]/\ds.length<=5/\ds.all digB=true then some (if sg=45 then -(valD ds:Int) else valD ds) else none
 | _=>none
theorem readPow_powR(N b:Nat)(r:List UInt8):readPow N b r=(powR r).map λp=>(N,p-4*(b:Int)):=by
 unfold readPow powR
 split
 ·rename_i sg ds
  by_cases h:(sg=43\/sg=45)/\ds≠[]/\ds.length<=5/\ds.all digB=true
  ·simp only[if_pos h];rfl
  ·simp only[if_neg h];rfl
 ·rename_i hn
  split
  ·exact(hn _ _ rfl).elim
  ·rfl
theorem powR_ok(sg:UInt8)(ds:List UInt8)(h1:sg=43\/sg=45):powR (112::sg::ds)=if allD ds=true/\ds.length<=5 then some (if sg=45 then -(valD ds:Int) else valD ds) else none:=by
 unfold powR allD
 have e:((sg=43\/sg=45)/\ds≠[]/\ds.length<=5/\ds.all digB=true)↔((!ds.isEmpty&&ds.all digB)=true/\ds.length<=5):=by
  rw[z2z]
  constructor
  ·rintro⟨-,a,b,c⟩
   exact⟨⟨by simpa using a,c⟩,b⟩
  ·rintro⟨⟨a,c⟩,b⟩
   exact⟨h1,by simpa using a,b,c⟩
 by_cases h:(sg=43\/sg=45)/\ds≠[]/\ds.length<=5/\ds.all digB=true
 ·simp only[if_pos h,if_pos (e.1 h)]
 ·simp only[if_neg h,if_neg (λg=>h (e.2 g))]
theorem powR_no(r:List UInt8)(h1:∀d,r≠112::43::d)(h2:∀d,r≠112::45::d):powR r=none:=by
 unfold powR
 split
 ·rename_i sg ds
  rw[if_neg]
  rintro⟨e|e,-⟩
  ·exact h1 ds (by rw[e])
  ·exact h2 ds (by rw[e])
 ·rfl
theorem valD_small(s:ByteArray)(h:s.data.toList.all digB=true)(hs:s.size<=5)(k:Nat):valD (s.data.toList.take k)<100000:=by
 have h1:=valD_take s.data.toList k
 have h2:=valD_le s.data.toList (λc hc=>of_decide_eq_true (List.all_eq_true.1 h c hc))
 have h3:10 ^ s.data.toList.length<=10 ^ 5:=Nat.pow_le_pow_right (by decide) (by rw[size_list];omega)
 have h4:(10:Nat) ^ 5=100000:=by decide
 omega
theorem sub48i(c:UInt8)(h:48<=c.toNat/\c.toNat<=57):IntKind.i64.wrap (IntKind.u8.wrap ((c.toNat:Int)-48))=(c.toNat:Int)-48:=by
 rw[IntKind.wrap_u8,IntKind.wrap_i64];omega
def powAns(m:Bool)(l:List UInt8):Value:=if allD l=true/\l.length<=5 then .tuple #[.int .i64 (if m=true then -(valD l:Int) else valD l),.bool true] else .tuple #[.int .i64 0,.bool false]
theorem powAns_no(m:Bool)(l:List UInt8)(h:¬ (allD l=true/\l.length<=5)):powAns m l=.tuple #[.int .i64 0,.bool false]:=by unfold powAns;rw[if_neg h]
theorem powAns_yes(m:Bool)(l:List UInt8)(h:allD l=true/\l.length<=5):powAns m l=.tuple #[.int .i64 (if m=true then -(valD l:Int) else valD l),.bool true]:=by unfold powAns;rw[if_pos h]
theorem readPower_plus(s D:ByteArray)(w:World)(hD:D.size<=maxLen)
  (c1:∀w,Calls prog 41 #[.string s,.string ⟨#[112,43]⟩] w λe w'=>e=.returned (.tuple #[.string D,.bool true])/\w'=w) :
  Calls prog 43 #[.string s] w λe w'=>e=.returned (powAns false D.data.toList)/\w'=w:=by
 have sz:=size_list D
 by_cases h5:D.size<=5
 ·cases ha:allD D.data.toList with
  | false=>
   have H:=hid (powAns_no false D.data.toList (by rw[ha];rintro⟨h,-⟩;cases h))
   go_enter func43,ntmps43
   go_wp2_with ((with_reducible (apply Calls.mono;first|exact c1 _|exact allDecimal_c _ hD _));rintro e w' ⟨rfl,rfl⟩)
   go_ret2
   exact⟨by rw[H.out];rfl,rfl⟩
  | true=>
   have hd:D.data.toList.all digB=true:=by unfold allD at ha;rw[z2z] at ha;exact ha.2
   have HD:=hid hd
   have H:=hid (powAns_yes false D.data.toList ⟨ha,by omega⟩)
   clear hd
   go_enter func43,ntmps43
   go_wp2_with ((with_reducible (apply Calls.mono;first|exact c1 _|exact allDecimal_c _ hD _));rintro e w' ⟨rfl,rfl⟩)
   go_loop [7,33] (λv i=>∃k:Nat,k<=D.size/\i=.int .i64 k/\v=.int .i64 (valD (D.data.toList.take k))) (λ_ i=>D.size-(intOf i).toNat)
   case atStart=>exact⟨0,z3z _,rfl,rfl⟩
   case round=>
    obtain⟨k,hk,rfl,rfl⟩:=hrel
    by_cases hlt:k<D.size
    ·obtain⟨d0,d1⟩:=dig_at D HD.out k hlt
     have HS:=hid (valD_step D k hlt)
     have e1:=sub48i D[k] ⟨d0,d1⟩
     have hv:=valD_small D HD.out h5 k
     go_wp2_with fail
     go_round
     case rel=>exact⟨k+1,hlt,by go_num,int_eq (by have:=HS.out;go_num)⟩
     case measure=>simp[intOf];omega
    ·have hv:=valD_small D HD.out h5 k
     rw[take_all D k hlt] at hv ⊢
     go_wp2_with fail
     go_ret2
     refine⟨?_,rfl⟩
     rw[H.out]
     exact ret_ib (by rw[if_neg (by decide)]) rfl
 ·go_enter func43,ntmps43
  have H:=hid (powAns_no false D.data.toList (by rintro⟨-,h⟩;omega))
  go_wp2_with ((with_reducible (apply Calls.mono;first|exact c1 _|exact allDecimal_c _ hD _));rintro e w' ⟨rfl,rfl⟩)
  go_ret2
  exact⟨by rw[H.out];rfl,rfl⟩
theorem readPower_minus(s D D0:ByteArray)(w:World)(hD:D.size<=maxLen)
  (c1:∀w,Calls prog 41 #[.string s,.string ⟨#[112,43]⟩] w λe w'=>e=.returned (.tuple #[.string D0,.bool false])/\w'=w)
  (c2:∀w,Calls prog 41 #[.string s,.string ⟨#[112,45]⟩] w λe w'=>e=.returned (.tuple #[.string D,.bool true])/\w'=w) :
  Calls prog 43 #[.string s] w λe w'=>e=.returned (powAns true D.data.toList)/\w'=w:=by
 have sz:=size_list D
 by_cases h5:D.size<=5
 ·cases ha:allD D.data.toList with
  | false=>
   have H:=hid (powAns_no true D.data.toList (by rw[ha];rintro⟨h,-⟩;cases h))
   go_enter func43,ntmps43
   go_wp2_with ((with_reducible (apply Calls.mono;first|exact c1 _|exact c2 _|exact allDecimal_c _ hD _));rintro e w' ⟨rfl,rfl⟩)
   go_ret2
   exact⟨by rw[H.out];rfl,rfl⟩
  | true=>
   have hd:D.data.toList.all digB=true:=by unfold allD at ha;rw[z2z] at ha;exact ha.2
   have HD:=hid hd
   have H:=hid (powAns_yes true D.data.toList ⟨ha,by omega⟩)
   clear hd
   go_enter func43,ntmps43
   go_wp2_with ((with_reducible (apply Calls.mono;first|exact c1 _|exact c2 _|exact allDecimal_c _ hD _));rintro e w' ⟨rfl,rfl⟩)
   go_loop [7,33] (λv i=>∃k:Nat,k<=D.size/\i=.int .i64 k/\v=.int .i64 (valD (D.data.toList.take k))) (λ_ i=>D.size-(intOf i).toNat)
   case atStart=>exact⟨0,z3z _,rfl,rfl⟩
   case round=>
    obtain⟨k,hk,rfl,rfl⟩:=hrel
    by_cases hlt:k<D.size
    ·obtain⟨d0,d1⟩:=dig_at D HD.out k hlt
     have HS:=hid (valD_step D k hlt)
     have e1:=sub48i D[k] ⟨d0,d1⟩
     have hv:=valD_small D HD.out h5 k
     go_wp2_with fail
     go_round
     case rel=>exact⟨k+1,hlt,by go_num,int_eq (by have:=HS.out;go_num)⟩
     case measure=>simp[intOf];omega
    ·have hv:=valD_small D HD.out h5 k
     rw[take_all D k hlt] at hv ⊢
     go_wp2_with fail
     go_ret2
     refine⟨?_,rfl⟩
     rw[H.out]
     exact ret_ib (by rw[if_pos trivial]) rfl
 ·go_enter func43,ntmps43
  have H:=hid (powAns_no true D.data.toList (by rintro⟨-,h⟩;omega))
  go_wp2_with ((with_reducible (apply Calls.mono;first|exact c1 _|exact c2 _|exact allDecimal_c _ hD _));rintro e w' ⟨rfl,rfl⟩)
  go_ret2
  exact⟨by rw[H.out];rfl,rfl⟩
theorem readPower_none(s D0 D1:ByteArray)(w:World)
  (c1:∀w,Calls prog 41 #[.string s,.string ⟨#[112,43]⟩] w λe w'=>e=.returned (.tuple #[.string D0,.bool false])/\w'=w)
  (c2:∀w,Calls prog 41 #[.string s,.string ⟨#[112,45]⟩] w λe w'=>e=.returned (.tuple #[.string D1,.bool false])/\w'=w) :
  Calls prog 43 #[.string s] w λe w'=>e=.returned (.tuple #[.int .i64 0,.bool false])/\w'=w:=by
 go_enter func43,ntmps43
 go_wp2_with (go_at_call 41;(first|(with_reducible refine(c1 _).mono ?_)|(with_reducible refine(c2 _).mono ?_));rintro e w' ⟨rfl,rfl⟩)
 go_ret2
 exact⟨rfl,rfl⟩
theorem readPower_c(s:ByteArray)(hs:s.size<=maxLen)(w:World) :
  Calls prog 43 #[.string s] w λe w'=>e=.returned (.tuple #[.int .i64 ((powR s.data.toList).getD 0),.bool (powR s.data.toList).isSome])/\w'=w:=by
 have k1:=λw=>cutPrefix_c s ⟨#[112,43]⟩ w
 have k2:=λw=>cutPrefix_c s ⟨#[112,45]⟩ w
 have sz:=size_list s
 rcases prefix_two s.data.toList 112 43 with⟨h1,h2⟩|⟨h1,h2,h3⟩
 ·have e1:z0z s.data.toList (⟨#[112,43]⟩:ByteArray).data.toList=true:=h1
  generalize hd:z1z s.data.toList [112,43]=d at h2
  have e2:z1z s.data.toList (⟨#[112,43]⟩:ByteArray).data.toList=d:=hd
  rw[e1,e2] at k1
  have hsz:(⟨d.toArray⟩:ByteArray).size=d.length:=by rw[<- size_list]
  refine(readPower_plus s ⟨d.toArray⟩ w (by rw[hsz];rw[h2] at sz;simp at sz;omega) k1).mono ?_
  rintro e w' ⟨rfl,rfl⟩
  refine⟨?_,rfl⟩
  rw[h2,powR_ok 43 d (Or.inl rfl)]
  show Ending.returned (powAns false d)=_
  by_cases g:allD d=true/\d.length<=5
  ·rw[powAns_yes _ _ g,if_pos g];rfl
  ·rw[powAns_no _ _ g,if_neg g];rfl
 ·have e1:z0z s.data.toList (⟨#[112,43]⟩:ByteArray).data.toList=false:=h1
  rw[e1] at k1
  rcases prefix_two s.data.toList 112 45 with⟨g1,g2⟩|⟨g1,g2,g3⟩
  ·have e1:z0z s.data.toList (⟨#[112,45]⟩:ByteArray).data.toList=true:=g1
   generalize hd:z1z s.data.toList [112,45]=d at g2
   have e2:z1z s.data.toList (⟨#[112,45]⟩:ByteArray).data.toList=d:=hd
   rw[e1,e2] at k2
   have hsz:(⟨d.toArray⟩:ByteArray).size=d.length:=by rw[<- size_list]
   refine(readPower_minus s ⟨d.toArray⟩ _ w (by rw[hsz];rw[g2] at sz;simp at sz;omega) k1 k2).mono ?_
   rintro e w' ⟨rfl,rfl⟩
   refine⟨?_,rfl⟩
   rw[g2,powR_ok 45 d (Or.inr rfl)]
   show Ending.returned (powAns true d)=_
   by_cases g:allD d=true/\d.length<=5
   ·rw[powAns_yes _ _ g,if_pos g];rfl
   ·rw[powAns_no _ _ g,if_neg g];rfl
  ·have e1:z0z s.data.toList (⟨#[112,45]⟩:ByteArray).data.toList=false:=g1
   rw[e1] at k2
   refine(readPower_none s _ _ w k1 k2).mono ?_
   rintro e w' ⟨rfl,rfl⟩
   refine⟨?_,rfl⟩
   rw[powR_no _ h3 g3];rfl
end Go.Proofs.YtknkedihmmbanaaDoor.W

import Derived.Test.YtgchnkgolclmgaaGreatDoorJA
import Derived.Test.YtgchnkgolclmgaaGreatDoorJC
import Derived.Below
import Derived.WalkSmall
import Derived.Lib.LaidTab
import Derived.Test.YtgchnkgolclmgaaGreatDoorShelf
import Derived.Sort.Grow
open List renaming take_append_drop → bY, isPrefixOf → dI
open Array renaming getElem?_eq_none → dQ
open Nat renaming zero_le → ay
open Bool renaming and_eq_true → aY
open Int renaming tdiv_eq_ediv_of_nonneg → bO
open Go.Lib renaming hasPrefix → aH, trimPrefix → aL
open Go.Proofs.Tryz
set_option maxRecDepth 1000000
set_option maxHeartbeats 8000000
namespace Go.Proofs.YtgchnkgolclmgaaGreatDoor.W
open Go.ChangeShapes Go.WideShapes Go.RowKit
theorem uD{a b c:World}(h:Below a.heap.size a b)(k:Below b.heap.size b c):Below a.heap.size a c:=h.trans (k.mono h.size)
def Tabs(w:World):Prop:=
 Lib.TabIs Tryz.prog w "internal/strconv.uint64pow10" .u64 Lib.pow10Tab ∧ ∀ j, j < Lib.deBruijn64tab.length → w.cell? ⟨1, j, none⟩ = some (.int .u8 (Lib.deBruijn64tab.getD j 0))
theorem AJ : Tryz.prog.globalNamed "internal/strconv.uint64pow10" = some 3 := by kernel_rfl
theorem Tabs.below{w w':World}(h:Tabs w)(hb:Below w.heap.size w w'):Tabs w':=by
 obtain⟨h1,h2⟩:=h
 refine⟨?_,λj hj=>?_⟩
 ·have lt:3<w.heap.size:=by
   apply Nat.lt_of_not_le
   intro hle
   have e:w.heap[3]? = none:=dQ hle
   unfold Lib.TabIs World.var? at h1
   rw[AJ] at h1
   simp only[Option.bind_some,e] at h1
   cases h1
  exact var?_below hb AJ lt h1
 ·have lt:1<w.heap.size:=by
   apply Nat.lt_of_not_le
   intro hle
   have e:w.heap[1]? = none:=dQ hle
   have:=h2 j hj
   simp only[World.cell?,e] at this
   cases this
  rw[hb.cell lt]
  exact h2 j hj
theorem Tabs.drewN{w:World}(h:Tabs w)(n:Nat):Tabs (w.drewN n):=h.below (below_drewN (Below.refl _ _) n)
theorem Kv{k:IntKind}{a a':Int}{b b':Bool}(h:a=a')(g:b=b'):Ending.returned (.tuple #[.int k a,.bool b])=.returned (.tuple #[.int k a',.bool b']):=by rw[h,g]
theorem int_eq{k:IntKind}{a b:Int}(h:a=b):Value.int k a=Value.int k b:=by rw[h]
theorem iA(s:ByteArray)(k:Nat)(h:k<s.size):s.data.toList.take (k+1)=s.data.toList.take k++[s[k]]:=by
 rw[List.take_succ_eq_append_getElem (by simpa using h)];rfl
theorem kJ(s:ByteArray)(k:Nat)(h:¬k<s.size):s.data.toList.take k=s.data.toList:=List.take_of_length_le (by simp;omega)
theorem size_list(s:ByteArray):s.data.toList.length=s.size:=by simp
theorem FH(w:World)(k:Nat)(os:Array Obj):Below w.heap.size w (Sort.grow (w.drewN k) os):=
 ⟨rfl,rfl,rfl,by simp[Sort.grow],λi hi=>by
  simp only[Sort.grow,World.drewN]
  rw[Array.getElem?_append_left hi]⟩
theorem DL(i:Int)(h0:-9223372036854775808<=i)(h1:i<=9223372036854775807)(w:World)(ht:Tabs w) :
  Calls prog 152 #[.int .i64 i,.int .i64 10] w λe w'=>e=.returned (.string ⟨(Ev i).toArray⟩)/\Below w.heap.size w w':=by
 refine(Tryz.strconv_FormatInt_10 i h0 h1 w ht.1).mono ?_
 rintro e w' ⟨rfl,k,os,rfl⟩
 exact⟨by rw[JB],FH _ _ _⟩
theorem jS(s p:ByteArray)(w:World) :
  Calls prog 106 #[.string s,.string p] w λe w'=>e=.returned (.bool (aH s.data.toList p.data.toList))/\w'=w:=Tryz.strings_HasPrefix s p w
theorem mF(s p:ByteArray)(w:World) :
  Calls prog 144 #[.string s,.string p] w λe w'=>e=.returned (.tuple #[.string ⟨(aL s.data.toList p.data.toList).toArray⟩,.bool (aH s.data.toList p.data.toList)])/\w'=w:=Tryz.strings_CutPrefix s p w
theorem eB(c:UInt8)(w:World) :
  Calls prog 140 #[.string ⟨#[48,49,50,51,52,53,54,55,56,57,97,98,99,100,101,102]⟩,.int .u8 c.toNat] w λe w'=>e=.returned (.int .i64 (bT c))/\w'=w:=by
 have h:=Tryz.strings_IndexByte ⟨#[48,49,50,51,52,53,54,55,56,57,97,98,99,100,101,102]⟩ (c.toNat:Int) w
 have e:Lib.indexByte (⟨#[48,49,50,51,52,53,54,55,56,57,97,98,99,100,101,102]⟩:ByteArray).data.toList ((c.toNat:Int).toNat.toUInt8)=bT c:=by
  have e1:((c.toNat:Int).toNat.toUInt8)=c:=by simp
  rw[e1]
  exact JI c
 rw[e] at h
 exact h
theorem Ac(x:Int)(h0:0<x)(h1:x<18446744073709551616)(w:World) :
  Calls prog 161 #[.int .u64 x] w λe w'=>e=.returned (.int .i64 (x.toNat.log2+1))/\w'=w:=by
 refine(Tryz.bits_Len64 x w (by omega) (by omega)).mono ?_
 rintro e w' ⟨rfl,rfl⟩
 exact⟨by rw[FU _ (by omega) (by omega)];rfl,rfl⟩
theorem WT(x:Int)(h0:0<x)(h1:x<18446744073709551616)(w:World)(ht:Tabs w) :
  Calls prog 160 #[.int .u64 x] w λe w'=>e=.returned (.int .i64 (fH x.toNat))/\w'=w:=by
 obtain⟨n,rfl⟩:=Int.eq_ofNat_of_zero_le (Int.le_of_lt h0)
 refine(Tryz.bits_TrailingZeros64 n (by omega) w (λ_=>ht.2)).mono ?_
 rintro e w' ⟨rfl,rfl⟩
 exact⟨by rw[Mq _ (by omega) (by omega)];rfl,rfl⟩
def fP(l:List UInt8):Bool:=!l.isEmpty&&l.all bI
theorem uQ(c:UInt8)(w:World) :
  Calls prog 163 #[.int .u8 c.toNat] w λe w'=>e=.returned (.bool (bI c))/\w'=w:=by
 go_enter func163,ntmps163
 go_wp2
 all_goals (go_ret;refine⟨jC ?_,rfl⟩;simp only[bI];rw[Bool.eq_iff_iff];simp only[decide_eq_true_eq,Bool.false_eq_true,false_iff];omega)
theorem xV(s:ByteArray)(k:Nat)(h:k<s.size)(hd:bI s[k]=true)(ha:(s.data.toList.take k).all bI=true):(s.data.toList.take (k+1)).all bI=true:=by
 rw[iA s k h,List.all_append,ha]
 simp[hd]
theorem Ph(s:ByteArray)(k:Nat)(h:k<s.size)(hd:bI s[k]=false):fP s.data.toList=false:=by
 have e:s.data.toList.all bI=false:=by
  rw[List.all_eq_false]
  exact⟨s[k],by rw[<- bY (k+1) s.data.toList,iA s k h];simp,by rw[hd];decide⟩
 unfold fP
 rw[e,Bool.and_false]
theorem toList_eq(s:ByteArray):s.toList=s.data.toList:=ByteArray.toList_eq s
theorem fI(s:ByteArray)(hs:s.size<=maxLen)(w:World) :
  Calls prog 145 #[.string s] w λe w'=>e=.returned (.bool (fP s.data.toList))/\w'=w:=by
 unfold maxLen at hs
 go_enter func145,ntmps145
 go_wp2_with fail
 go_loop [6] (λi=>∃k:Nat,k<=s.size/\i=.int .i64 k/\(s.data.toList.take k).all bI=true) (λi=>s.size-(intOf i).toNat)
 case atStart=>exact⟨0,ay _,rfl,rfl⟩
 case round=>
  obtain⟨k,hk,rfl,ha⟩:=hrel
  by_cases hlt:k<s.size
  ·cases hd:bI s[k] with
   | true=>
    have R:=hid (xV s k hlt hd ha)
    clear ha
    go_wp2_with (go_at_call 163;refine(uQ _ _).mono ?_;rintro e w' ⟨rfl,rfl⟩)
    go_round
    case rel=>exact⟨k+1,hlt,by go_num,R.out⟩
    case measure=>simp[intOf];omega
   | false=>
    have R:=hid (Ph s k hlt hd)
    clear ha
    go_wp2_with (go_at_call 163;refine(uQ _ _).mono ?_;rintro e w' ⟨rfl,rfl⟩)
    go_ret
    exact⟨jC R.out.symm,rfl⟩
  ·rw[kJ s k hlt] at ha
   have R:=hid (show fP s.data.toList = !s.toList.isEmpty by unfold fP;rw[ha,toList_eq,Bool.and_true])
   clear ha
   go_wp2_with fail
   go_ret
   exact⟨jC R.out.symm,rfl⟩
theorem tC(l:List UInt8)(k:Nat):au (l.take k)<=au l:=by
 have e:au l=au (l.take k)*10 ^ (l.drop k).length+au (l.drop k):=by
  have:au l=au (l.take k++l.drop k):=by rw[bY]
  rw[this]
  unfold au
  rw[List.foldl_append,Q8]
  rfl
 have p:1<=10 ^ (l.drop k).length:=Nat.one_le_pow _ _ (by decide)
 have:au (l.take k)*1<=au (l.take k)*10 ^ (l.drop k).length:=Nat.mul_le_mul_left _ p
 omega
theorem lD(s:ByteArray)(k:Nat)(h:k<s.size):au (s.data.toList.take (k+1))=10*au (s.data.toList.take k)+(s[k].toNat-48):=by
 rw[iA s k h,tF]
theorem Ao(s:ByteArray)(h:s.data.toList.all bI=true)(k:Nat)(hk:k<s.size):48<=s[k].toNat/\s[k].toNat<=57:=by
 have:=List.all_eq_true.1 h s[k] (by rw[<- bY (k+1) s.data.toList,iA s k hk];simp)
 exact of_decide_eq_true this
def wU(m:Bool):Int:=if m=true then 9223372036854775808 else 9223372036854775807
def mU(m:Bool)(d:List UInt8):Int × Int:=if (au d:Int)<=wU m then ((if m=true then -(au d:Int) else au d),0) else (0,13)
theorem tV(m:Bool)(d:List UInt8)(h:qN m d=true):gN m d=mU m d:=by
 unfold gN mU wU
 rw[if_pos h]
 cases m
 ·simp only[Bool.false_eq_true,if_false]
  by_cases g:au d<9223372036854775808
  ·rw[if_pos g,if_pos (by omega)]
  ·rw[if_neg g,if_neg (by omega)]
 ·simp only[if_true]
  by_cases g:au d<=9223372036854775808
  ·rw[if_pos g,if_pos (by omega)]
  ·rw[if_neg g,if_neg (by omega)]
theorem Bj(c:UInt8)(h:48<=c.toNat/\c.toNat<=57):IntKind.u64.wrap (IntKind.u8.wrap ((c.toNat:Int)-48))=(c.toNat:Int)-48:=by
 rw[IntKind.wrap_u8,IntKind.wrap_u64];omega
theorem qL(s:ByteArray)(m:Bool)(hs:s.size<=maxLen)(hd:s.data.toList.all bI=true)(w:World) :
  Calls prog 146 #[.string s,.bool m] w λe w'=>e=.returned (.tuple #[.int .i64 (mU m s.data.toList).1,.int .i64 (mU m s.data.toList).2])/\w'=w:=by
 unfold maxLen at hs
 have HD:=hid hd
 clear hd
 cases m with
 | false=>
  go_enter func146,ntmps146
  go_wp2_with fail
  go_loop [7,15] (λv i=>∃k:Nat,k<=s.size/\i=.int .i64 k/\v=.int .u64 (au (s.data.toList.take k))/\(au (s.data.toList.take k):Int)<=9223372036854775807) (λ_ i=>s.size-(intOf i).toNat)
  case atStart=>exact⟨0,ay _,rfl,rfl,by simp[au]⟩
  case round=>
   obtain⟨k,hk,rfl,rfl,hv⟩:=hrel
   by_cases hlt:k<s.size
   ·obtain⟨d0,d1⟩:=Ao s HD.out k hlt
    have st:=lD s k hlt
    have HT:=hid (tC s.data.toList (k+1))
    have e1:=Bj s[k] ⟨d0,d1⟩
    by_cases hf:(au (s.data.toList.take (k+1)):Int)<=9223372036854775807
    ·have HS:=hid st
     have e3:¬ (9223372036854775807-((s[k].toNat:Int)-48)).tdiv 10<(au (s.data.toList.take k):Int):=by rw[bO (by omega)];omega
     have e3':¬ (9223372036854775807-((s[k].toNat:Int)-48))/10<(au (s.data.toList.take k):Int):=by omega
     have HF:=hid hf
     clear st hf
     go_wp2_with fail
     go_round
     case rel=>exact⟨k+1,hlt,by go_num,int_eq (by have:=HS.out;have:=HF.out;go_num),HF.out⟩
     case measure=>simp[intOf];omega
    ·have e3:(9223372036854775807-((s[k].toNat:Int)-48)).tdiv 10<(au (s.data.toList.take k):Int):=by rw[bO (by omega)];omega
     have e3':(9223372036854775807-((s[k].toNat:Int)-48))/10<(au (s.data.toList.take k):Int):=by omega
     have HF:=hid hf
     clear st hf
     go_wp2_with fail
     go_ret2
     have E:mU false s.data.toList=(0,13):=by
      have:=HT.out
      have:=HF.out
      unfold mU wU
      rw[if_neg (by simp;omega)]
     exact⟨aZ (by rw[E]) (by rw[E]),rfl⟩
   ·rw[kJ s k hlt] at hv ⊢
    have HV:=hid hv
    clear hv
    go_wp2_with fail
    go_ret2
    have E:mU false s.data.toList=((au s.data.toList:Int),0):=by
     have:=HV.out
     unfold mU wU
     rw[if_pos (by simp;omega)]
     rfl
    have:=HV.out
    exact⟨aZ (by rw[E];simp only[wrap64];omega) (by rw[E]),rfl⟩
 | true=>
  go_enter func146,ntmps146
  go_wp2_with fail
  go_loop [7,15] (λv i=>∃k:Nat,k<=s.size/\i=.int .i64 k/\v=.int .u64 (au (s.data.toList.take k))/\(au (s.data.toList.take k):Int)<=9223372036854775808) (λ_ i=>s.size-(intOf i).toNat)
  case atStart=>exact⟨0,ay _,rfl,rfl,by simp[au]⟩
  case round=>
   obtain⟨k,hk,rfl,rfl,hv⟩:=hrel
   by_cases hlt:k<s.size
   ·obtain⟨d0,d1⟩:=Ao s HD.out k hlt
    have st:=lD s k hlt
    have HT:=hid (tC s.data.toList (k+1))
    have e1:=Bj s[k] ⟨d0,d1⟩
    by_cases hf:(au (s.data.toList.take (k+1)):Int)<=9223372036854775808
    ·have HS:=hid st
     have e3:¬ (9223372036854775808-((s[k].toNat:Int)-48)).tdiv 10<(au (s.data.toList.take k):Int):=by rw[bO (by omega)];omega
     have e3':¬ (9223372036854775808-((s[k].toNat:Int)-48))/10<(au (s.data.toList.take k):Int):=by omega
     have HF:=hid hf
     clear st hf
     go_wp2_with fail
     go_round
     case rel=>exact⟨k+1,hlt,by go_num,int_eq (by have:=HS.out;have:=HF.out;go_num),HF.out⟩
     case measure=>simp[intOf];omega
    ·have e3:(9223372036854775808-((s[k].toNat:Int)-48)).tdiv 10<(au (s.data.toList.take k):Int):=by rw[bO (by omega)];omega
     have e3':(9223372036854775808-((s[k].toNat:Int)-48))/10<(au (s.data.toList.take k):Int):=by omega
     have HF:=hid hf
     clear st hf
     go_wp2_with fail
     go_ret2
     have E:mU true s.data.toList=(0,13):=by
      have:=HT.out
      have:=HF.out
      unfold mU wU
      rw[if_neg (by simp;omega)]
     exact⟨aZ (by rw[E]) (by rw[E]),rfl⟩
   ·rw[kJ s k hlt] at hv ⊢
    have HV:=hid hv
    clear hv
    go_wp2_with fail
    go_ret2
    have E:mU true s.data.toList=(-(au s.data.toList:Int),0):=by
     have:=HV.out
     unfold mU wU
     rw[if_pos (by simp;omega)]
     rfl
    have:=HV.out
    exact⟨aZ (by rw[E];simp only[wrap64,IntKind.wrap_u64];omega) (by rw[E]),rfl⟩
theorem V6(i:Int)(h0:-9223372036854775808<=i)(h1:i<=9223372036854775807)(w:World)(ht:Tabs w) :
  Calls prog 131 #[.int .i64 i] w λe w'=>e=.returned (.string ⟨(Ev i).toArray⟩)/\Below w.heap.size w w':=by
 go_enter func131,ntmps131
 go_wp2_with (go_at_call 152;refine(DL i h0 h1 _ ht).mono ?_;rintro e w' ⟨rfl,hb⟩)
 go_ret
 exact⟨rfl,hb⟩
def fK(l:List UInt8):List UInt8:=match l with|45::d=>d|d=>d
def jc(l:List UInt8):Bool:=match l with|45::_=>true|_=>false
theorem rO(l:List UInt8)(h:∀d,l=45::d->False):jc l=false/\fK l=l:=by
 unfold jc fK
 constructor
 ·split
  ·rename_i e;exact(h _ rfl).elim
  ·rfl
 ·split
  ·rename_i e;exact(h _ rfl).elim
  ·rfl
theorem wE(l:List UInt8)(h:l.length<=64):kW l=gN (jc l) (fK l):=by
 unfold kW
 rw[if_neg (by omega)]
 split
 ·rfl
 ·rename_i hn
  obtain⟨e1,e2⟩:=rO l hn
  rw[e1,e2]
theorem JV(l:List UInt8):qN (jc l) (fK l)=(fP (fK l) && !((fK l).head? == some 48 && !(l==[48]))):=by
 unfold qN fP
 congr 2
 cases l with
 | nil=>rfl
 | cons c r=>
  by_cases h:c=45
  ·subst h
   have e:((45::r:List UInt8)==[48])=false:=by rw[beq_eq_false_iff_ne];intro e;injection e with e1 e2;revert e1;decide
   show (r.head? == some 48&&(decide (1<r.length)||true))=_
   rw[e,Bool.or_true]
   rfl
  ·have e1:fK (c::r)=c::r:=by
    unfold fK
    split
    ·rename_i e1;injection e1 with e2 e3;exact absurd e2 h
    ·rfl
   have e2:jc (c::r)=false:=by
    unfold jc
    split
    ·rename_i e1;injection e1 with e2 e3;exact absurd e2 h
    ·rfl
   rw[e1,e2,Bool.or_false]
   cases hc:((c::r).head? == some 48) with
   | false=>rfl
   | true=>
    simp only[List.head?_cons] at hc
    have:c=48:=by simpa using hc
    subst this
    cases r with
    | nil=>rfl
    | cons d r=>simp
theorem CG(l:List UInt8):(fK l).length<=l.length:=by
 unfold fK
 split <;> simp
theorem rC(s:ByteArray)(w:World) :
  Calls prog 144 #[.string s,.string ⟨#[45]⟩] w λe w'=>e=.returned (.tuple #[.string ⟨(fK s.data.toList).toArray⟩,.bool (jc s.data.toList)])/\w'=w:=by
 obtain⟨p1,p2⟩:=zy s.data.toList
 have h:=mF s ⟨#[45]⟩ w
 have e1:aH s.data.toList (⟨#[45]⟩:ByteArray).data.toList=jc s.data.toList:=p1
 have e2:aL s.data.toList (⟨#[45]⟩:ByteArray).data.toList=fK s.data.toList:=p2
 rw[e1,e2] at h
 exact h
theorem PI(D:ByteArray)(h:0<D.size):(D.data.toList.head? == some 48)=((D[0].toNat:Int)==48):=by
 obtain⟨⟨l⟩⟩:=D
 cases l with
 | nil=>exact absurd h (by decide)
 | cons c r=>
  show (some c==some 48)=((c.toNat:Int)==48)
  rw[Bool.eq_iff_iff,beq_iff_eq,beq_iff_eq]
  constructor
  ·intro e;injection e with e;subst e;rfl
  ·intro e
   congr 1
   apply UInt8.toNat_inj.1
   have:c.toNat=48:=by omega
   rw[this];rfl
theorem xq(s D:ByteArray)(m:Bool)(x e:Int)(w:World)(h64:s.size<=64)(hD:D.size<=64)
  (hcut:∀w,Calls prog 144 #[.string s,.string ⟨#[45]⟩] w λe w'=>e=.returned (.tuple #[.string D,.bool m])/\w'=w)
  (hR:(fP D.data.toList=false/\x=0/\e=20)\/(fP D.data.toList=true/\0<D.size/\((∃h:0<D.size,((D[0].toNat:Int)==48)=true)/\(s.toList==[48])=false/\x=0/\e=20 \/
   ((∃h:0<D.size,((D[0].toNat:Int)==48)=false)\/(∃h:0<D.size,((D[0].toNat:Int)==48)=true)/\(s.toList==[48])=true)/\x=(mU m D.data.toList).1/\e=(mU m D.data.toList).2))) :
  Calls prog 110 #[.string s] w λr w'=>r=.returned (.tuple #[.int .i64 x,.int .i64 e])/\w'=w:=by
 have ml:D.size<=maxLen:=by unfold maxLen;omega
 rcases hR with⟨h1,rfl,rfl⟩|⟨h1,hp,⟨⟨_,h2⟩,h3,rfl,rfl⟩|⟨⟨_,h2⟩|⟨⟨_,h2⟩,h3⟩,rfl,rfl⟩⟩
 ·go_enter func110,ntmps110
  go_wp2_with (first|(go_at_call 144;refine(hcut _).mono ?_;rintro e w' ⟨rfl,rfl⟩)|(go_at_call 145;refine(fI _ ml _).mono ?_;rintro e w' ⟨rfl,rfl⟩))
  go_ret2
  exact⟨rfl,rfl⟩
 ·go_enter func110,ntmps110
  go_wp2_with (first|(go_at_call 144;refine(hcut _).mono ?_;rintro e w' ⟨rfl,rfl⟩)|(go_at_call 145;refine(fI _ ml _).mono ?_;rintro e w' ⟨rfl,rfl⟩))
  go_ret2
  exact⟨rfl,rfl⟩
 ·have hd:D.data.toList.all bI=true:=by unfold fP at h1;rw[aY] at h1;exact h1.2
  have c:=qL D m ml hd
  clear hd
  go_enter func110,ntmps110
  go_wp2_with (first|(go_at_call 144;refine(hcut _).mono ?_;rintro e w' ⟨rfl,rfl⟩)|(go_at_call 145;refine(fI _ ml _).mono ?_;rintro e w' ⟨rfl,rfl⟩)|(go_at_call 146;refine(c _).mono ?_;rintro e w' ⟨rfl,rfl⟩))
  go_ret2
  exact⟨rfl,rfl⟩
 ·have hd:D.data.toList.all bI=true:=by unfold fP at h1;rw[aY] at h1;exact h1.2
  have c:=qL D m ml hd
  clear hd
  go_enter func110,ntmps110
  go_wp2_with (first|(go_at_call 144;refine(hcut _).mono ?_;rintro e w' ⟨rfl,rfl⟩)|(go_at_call 145;refine(fI _ ml _).mono ?_;rintro e w' ⟨rfl,rfl⟩)|(go_at_call 146;refine(c _).mono ?_;rintro e w' ⟨rfl,rfl⟩))
  go_ret2
  exact⟨rfl,rfl⟩
theorem EW(s:ByteArray)(hs:s.size<=maxLen)(w:World) :
  Calls prog 110 #[.string s] w λe w'=>e=.returned (.tuple #[.int .i64 (kW s.data.toList).1,.int .i64 (kW s.data.toList).2])/\w'=w:=by
 unfold maxLen at hs
 have sl:=size_list s
 by_cases c:s.size<=64
 ·have er:=wE s.data.toList (by omega)
  have ef:=JV s.data.toList
  have rl:=CG s.data.toList
  have hc:=rC s
  obtain⟨D,hD⟩:∃D:ByteArray,D=⟨(fK s.data.toList).toArray⟩:=⟨_,rfl⟩
  have hDl:D.data.toList=fK s.data.toList:=by rw[hD]
  have hDs:=size_list D
  rw[<- hD] at hc
  rw[<- hDl] at ef er rl
  refine xq s D _ _ _ w c (by omega) hc ?_
  rw[er]
  cases ha:fP D.data.toList with
  | false=>
   rw[ha,Bool.false_and] at ef
   unfold gN
   rw[if_neg (by rw[ef];decide)]
   exact Or.inl ⟨rfl,rfl,rfl⟩
  | true=>
   have hp:0<D.size:=by
    unfold fP at ha
    rw[aY] at ha
    have:D.data.toList≠[]:=by simpa using ha.1
    have:=List.length_pos_iff.2 this
    omega
   rw[ha,Bool.true_and,PI D hp] at ef
   have es:(s.toList==[48])=(s.data.toList==[48]):=by rw[toList_eq]
   refine Or.inr ⟨rfl,hp,?_⟩
   rw[es]
   cases hh:((D[0].toNat:Int)==48) with
   | false=>
    rw[hh] at ef
    rw[tV _ _ ef]
    exact Or.inr ⟨Or.inl ⟨hp,hh⟩,rfl,rfl⟩
   | true=>
    cases h0:(s.data.toList==[48]) with
    | true=>
     rw[hh,h0] at ef
     rw[tV _ _ ef]
     exact Or.inr ⟨Or.inr ⟨⟨hp,hh⟩,rfl⟩,rfl,rfl⟩
    | false=>
     rw[hh,h0] at ef
     unfold gN
     rw[if_neg (by rw[ef];decide)]
     exact Or.inl ⟨⟨hp,hh⟩,rfl,rfl,rfl⟩
 ·have E:kW s.data.toList=(0,2):=by unfold kW;rw[if_pos (by omega)]
  have H:=hid E
  clear E
  go_enter func110,ntmps110
  go_wp2_with fail
  go_ret2
  exact⟨aZ (by rw[H.out]) (by rw[H.out]),rfl⟩
theorem qg(l:List UInt8)(a b:UInt8):(aH l [a,b]=true/\l=a::b::aL l [a,b])\/(aH l [a,b]=false/\aL l [a,b]=l/\∀r,l≠a::b::r):=by
 unfold aL aH
 by_cases h:∃r,l=a::b::r
 ·obtain⟨r,rfl⟩:=h
  refine Or.inl ⟨by simp[dI],?_⟩
  simp[dI]
 ·refine Or.inr ?_
  have e:dI [a,b] l=false:=by
   rw[Bool.eq_false_iff]
   intro e
   rw[List.isPrefixOf_iff_prefix] at e
   obtain⟨r,hr⟩:=e
   exact h ⟨r,hr.symm⟩
  rw[e]
  exact⟨rfl,rfl,λr hr=>h ⟨r,hr⟩⟩
def lV(r:List UInt8):Option Int:=
 match r with
 | 112::sg::ds=>if (sg=43\/sg=45)/\ds≠[]/\ds.length<=5/\ds.all bI=true then some (if sg=45 then -(au ds:Int) else au ds) else none
 | _=>none
theorem aK(N b:Nat)(r:List UInt8):jF N b r=(lV r).map λp=>(N,p-4*(b:Int)):=by
 unfold jF lV
 split
 ·rename_i sg ds
  by_cases h:(sg=43\/sg=45)/\ds≠[]/\ds.length<=5/\ds.all bI=true
  ·simp only[if_pos h];rfl
  ·simp only[if_neg h];rfl
 ·rename_i hn
  split
  ·exact(hn _ _ rfl).elim
  ·rfl
theorem AB(sg:UInt8)(ds:List UInt8)(h1:sg=43\/sg=45):lV (112::sg::ds)=if fP ds=true/\ds.length<=5 then some (if sg=45 then -(au ds:Int) else au ds) else none:=by
 unfold lV fP
 have e:((sg=43\/sg=45)/\ds≠[]/\ds.length<=5/\ds.all bI=true)↔((!ds.isEmpty&&ds.all bI)=true/\ds.length<=5):=by
  rw[aY]
  constructor
  ·rintro⟨-,a,b,c⟩
   exact⟨⟨by simpa using a,c⟩,b⟩
  ·rintro⟨⟨a,c⟩,b⟩
   exact⟨h1,by simpa using a,b,c⟩
 by_cases h:(sg=43\/sg=45)/\ds≠[]/\ds.length<=5/\ds.all bI=true
 ·simp only[if_pos h,if_pos (e.1 h)]
 ·simp only[if_neg h,if_neg (λg=>h (e.2 g))]
theorem vI(r:List UInt8)(h1:∀d,r≠112::43::d)(h2:∀d,r≠112::45::d):lV r=none:=by
 unfold lV
 split
 ·rename_i sg ds
  rw[if_neg]
  rintro⟨e|e,-⟩
  ·exact h1 ds (by rw[e])
  ·exact h2 ds (by rw[e])
 ·rfl
theorem nP(s:ByteArray)(h:s.data.toList.all bI=true)(hs:s.size<=5)(k:Nat):au (s.data.toList.take k)<100000:=by
 have h1:=tC s.data.toList k
 have h2:=zY s.data.toList (λc hc=>of_decide_eq_true (List.all_eq_true.1 h c hc))
 have h3:10 ^ s.data.toList.length<=10 ^ 5:=Nat.pow_le_pow_right (by decide) (by rw[size_list];omega)
 have h4:(10:Nat) ^ 5=100000:=by decide
 omega
theorem mK(c:UInt8)(h:48<=c.toNat/\c.toNat<=57):IntKind.i64.wrap (IntKind.u8.wrap ((c.toNat:Int)-48))=(c.toNat:Int)-48:=by
 rw[IntKind.wrap_u8,IntKind.wrap_i64];omega
def oZ(m:Bool)(l:List UInt8):Value:=if fP l=true/\l.length<=5 then .tuple #[.int .i64 (if m=true then -(au l:Int) else au l),.bool true] else .tuple #[.int .i64 0,.bool false]
theorem lF(m:Bool)(l:List UInt8)(h:¬ (fP l=true/\l.length<=5)):oZ m l=.tuple #[.int .i64 0,.bool false]:=by unfold oZ;rw[if_neg h]
theorem nV(m:Bool)(l:List UInt8)(h:fP l=true/\l.length<=5):oZ m l=.tuple #[.int .i64 (if m=true then -(au l:Int) else au l),.bool true]:=by unfold oZ;rw[if_pos h]
theorem wC(s D:ByteArray)(w:World)(hD:D.size<=maxLen)
  (c1:∀w,Calls prog 144 #[.string s,.string ⟨#[112,43]⟩] w λe w'=>e=.returned (.tuple #[.string D,.bool true])/\w'=w) :
  Calls prog 159 #[.string s] w λe w'=>e=.returned (oZ false D.data.toList)/\w'=w:=by
 have sz:=size_list D
 by_cases h5:D.size<=5
 ·cases ha:fP D.data.toList with
  | false=>
   have H:=hid (lF false D.data.toList (by rw[ha];rintro⟨h,-⟩;cases h))
   go_enter func159,ntmps159
   go_wp2_with ((with_reducible (apply Calls.mono;first|exact c1 _|exact fI _ hD _));rintro e w' ⟨rfl,rfl⟩)
   go_ret2
   exact⟨by rw[H.out];rfl,rfl⟩
  | true=>
   have hd:D.data.toList.all bI=true:=by unfold fP at ha;rw[aY] at ha;exact ha.2
   have HD:=hid hd
   have H:=hid (nV false D.data.toList ⟨ha,by omega⟩)
   clear hd
   go_enter func159,ntmps159
   go_wp2_with ((with_reducible (apply Calls.mono;first|exact c1 _|exact fI _ hD _));rintro e w' ⟨rfl,rfl⟩)
   go_loop [7,33] (λv i=>∃k:Nat,k<=D.size/\i=.int .i64 k/\v=.int .i64 (au (D.data.toList.take k))) (λ_ i=>D.size-(intOf i).toNat)
   case atStart=>exact⟨0,ay _,rfl,rfl⟩
   case round=>
    obtain⟨k,hk,rfl,rfl⟩:=hrel
    by_cases hlt:k<D.size
    ·obtain⟨d0,d1⟩:=Ao D HD.out k hlt
     have HS:=hid (lD D k hlt)
     have e1:=mK D[k] ⟨d0,d1⟩
     have hv:=nP D HD.out h5 k
     go_wp2_with fail
     go_round
     case rel=>exact⟨k+1,hlt,by go_num,int_eq (by have:=HS.out;go_num)⟩
     case measure=>simp[intOf];omega
    ·have hv:=nP D HD.out h5 k
     rw[kJ D k hlt] at hv ⊢
     go_wp2_with fail
     go_ret2
     refine⟨?_,rfl⟩
     rw[H.out]
     exact Kv (by rw[if_neg (by decide)]) rfl
 ·go_enter func159,ntmps159
  have H:=hid (lF false D.data.toList (by rintro⟨-,h⟩;omega))
  go_wp2_with ((with_reducible (apply Calls.mono;first|exact c1 _|exact fI _ hD _));rintro e w' ⟨rfl,rfl⟩)
  go_ret2
  exact⟨by rw[H.out];rfl,rfl⟩
theorem uj(s D D0:ByteArray)(w:World)(hD:D.size<=maxLen)
  (c1:∀w,Calls prog 144 #[.string s,.string ⟨#[112,43]⟩] w λe w'=>e=.returned (.tuple #[.string D0,.bool false])/\w'=w)
  (c2:∀w,Calls prog 144 #[.string s,.string ⟨#[112,45]⟩] w λe w'=>e=.returned (.tuple #[.string D,.bool true])/\w'=w) :
  Calls prog 159 #[.string s] w λe w'=>e=.returned (oZ true D.data.toList)/\w'=w:=by
 have sz:=size_list D
 by_cases h5:D.size<=5
 ·cases ha:fP D.data.toList with
  | false=>
   have H:=hid (lF true D.data.toList (by rw[ha];rintro⟨h,-⟩;cases h))
   go_enter func159,ntmps159
   go_wp2_with ((with_reducible (apply Calls.mono;first|exact c1 _|exact c2 _|exact fI _ hD _));rintro e w' ⟨rfl,rfl⟩)
   go_ret2
   exact⟨by rw[H.out];rfl,rfl⟩
  | true=>
   have hd:D.data.toList.all bI=true:=by unfold fP at ha;rw[aY] at ha;exact ha.2
   have HD:=hid hd
   have H:=hid (nV true D.data.toList ⟨ha,by omega⟩)
   clear hd
   go_enter func159,ntmps159
   go_wp2_with ((with_reducible (apply Calls.mono;first|exact c1 _|exact c2 _|exact fI _ hD _));rintro e w' ⟨rfl,rfl⟩)
   go_loop [7,33] (λv i=>∃k:Nat,k<=D.size/\i=.int .i64 k/\v=.int .i64 (au (D.data.toList.take k))) (λ_ i=>D.size-(intOf i).toNat)
   case atStart=>exact⟨0,ay _,rfl,rfl⟩
   case round=>
    obtain⟨k,hk,rfl,rfl⟩:=hrel
    by_cases hlt:k<D.size
    ·obtain⟨d0,d1⟩:=Ao D HD.out k hlt
     have HS:=hid (lD D k hlt)
     have e1:=mK D[k] ⟨d0,d1⟩
     have hv:=nP D HD.out h5 k
     go_wp2_with fail
     go_round
     case rel=>exact⟨k+1,hlt,by go_num,int_eq (by have:=HS.out;go_num)⟩
     case measure=>simp[intOf];omega
    ·have hv:=nP D HD.out h5 k
     rw[kJ D k hlt] at hv ⊢
     go_wp2_with fail
     go_ret2
     refine⟨?_,rfl⟩
     rw[H.out]
     exact Kv (by rw[if_pos trivial]) rfl
 ·go_enter func159,ntmps159
  have H:=hid (lF true D.data.toList (by rintro⟨-,h⟩;omega))
  go_wp2_with ((with_reducible (apply Calls.mono;first|exact c1 _|exact c2 _|exact fI _ hD _));rintro e w' ⟨rfl,rfl⟩)
  go_ret2
  exact⟨by rw[H.out];rfl,rfl⟩
theorem wD(s D0 D1:ByteArray)(w:World)
  (c1:∀w,Calls prog 144 #[.string s,.string ⟨#[112,43]⟩] w λe w'=>e=.returned (.tuple #[.string D0,.bool false])/\w'=w)
  (c2:∀w,Calls prog 144 #[.string s,.string ⟨#[112,45]⟩] w λe w'=>e=.returned (.tuple #[.string D1,.bool false])/\w'=w) :
  Calls prog 159 #[.string s] w λe w'=>e=.returned (.tuple #[.int .i64 0,.bool false])/\w'=w:=by
 go_enter func159,ntmps159
 go_wp2_with (go_at_call 144;(first|(with_reducible refine(c1 _).mono ?_)|(with_reducible refine(c2 _).mono ?_));rintro e w' ⟨rfl,rfl⟩)
 go_ret2
 exact⟨rfl,rfl⟩
theorem uI(s:ByteArray)(hs:s.size<=maxLen)(w:World) :
  Calls prog 159 #[.string s] w λe w'=>e=.returned (.tuple #[.int .i64 ((lV s.data.toList).getD 0),.bool (lV s.data.toList).isSome])/\w'=w:=by
 have k1:=λw=>mF s ⟨#[112,43]⟩ w
 have k2:=λw=>mF s ⟨#[112,45]⟩ w
 have sz:=size_list s
 rcases qg s.data.toList 112 43 with⟨h1,h2⟩|⟨h1,h2,h3⟩
 ·have e1:aH s.data.toList (⟨#[112,43]⟩:ByteArray).data.toList=true:=h1
  generalize hd:aL s.data.toList [112,43]=d at h2
  have e2:aL s.data.toList (⟨#[112,43]⟩:ByteArray).data.toList=d:=hd
  rw[e1,e2] at k1
  have hsz:(⟨d.toArray⟩:ByteArray).size=d.length:=by rw[<- size_list]
  refine(wC s ⟨d.toArray⟩ w (by rw[hsz];rw[h2] at sz;simp at sz;omega) k1).mono ?_
  rintro e w' ⟨rfl,rfl⟩
  refine⟨?_,rfl⟩
  rw[h2,AB 43 d (Or.inl rfl)]
  show Ending.returned (oZ false d)=_
  by_cases g:fP d=true/\d.length<=5
  ·rw[nV _ _ g,if_pos g];rfl
  ·rw[lF _ _ g,if_neg g];rfl
 ·have e1:aH s.data.toList (⟨#[112,43]⟩:ByteArray).data.toList=false:=h1
  rw[e1] at k1
  rcases qg s.data.toList 112 45 with⟨g1,g2⟩|⟨g1,g2,g3⟩
  ·have e1:aH s.data.toList (⟨#[112,45]⟩:ByteArray).data.toList=true:=g1
   generalize hd:aL s.data.toList [112,45]=d at g2
   have e2:aL s.data.toList (⟨#[112,45]⟩:ByteArray).data.toList=d:=hd
   rw[e1,e2] at k2
   have hsz:(⟨d.toArray⟩:ByteArray).size=d.length:=by rw[<- size_list]
   refine(uj s ⟨d.toArray⟩ _ w (by rw[hsz];rw[g2] at sz;simp at sz;omega) k1 k2).mono ?_
   rintro e w' ⟨rfl,rfl⟩
   refine⟨?_,rfl⟩
   rw[g2,AB 45 d (Or.inr rfl)]
   show Ending.returned (oZ true d)=_
   by_cases g:fP d=true/\d.length<=5
   ·rw[nV _ _ g,if_pos g];rfl
   ·rw[lF _ _ g,if_neg g];rfl
  ·have e1:aH s.data.toList (⟨#[112,45]⟩:ByteArray).data.toList=false:=g1
   rw[e1] at k2
   refine(wD s _ _ w k1 k2).mono ?_
   rintro e w' ⟨rfl,rfl⟩
   refine⟨?_,rfl⟩
   rw[vI _ h3 g3];rfl
end Go.Proofs.YtgchnkgolclmgaaGreatDoor.W

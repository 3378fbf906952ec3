import Derived.Test.YtjplieobnknnpaaGreatDoorJA
import Derived.Test.YtjplieobnknnpaaGreatDoorJC
import Derived.Below
import Derived.WalkSmall
import Derived.Lib.LaidTab
import Derived.Test.YtjplieobnknnpaaGreatDoorShelf
import Derived.Sort.Grow
open List renaming take_append_drop → z5z, isPrefixOf → z6z
open Array renaming getElem?_eq_none → z7z
open Nat renaming zero_le → z3z
open Bool renaming and_eq_true → z2z
open Int renaming tdiv_eq_ediv_of_nonneg → z4z
open Go.Lib renaming hasPrefix → z0z, trimPrefix → z1z
open Go.Proofs.Tryz
set_option maxRecDepth 1000000
set_option maxHeartbeats 8000000
namespace Go.Proofs.YtjplieobnknnpaaGreatDoor.W
open Go.ChangeShapes Go.WideShapes Go.RowKit
theorem Nh{a b c:World}(h:Below a.heap.size a b)(k:Below b.heap.size b c):Below a.heap.size a c:=h.trans (k.mono h.size)
def Tabs(w:World):Prop:=
 Lib.TabIs Tryz.prog w "internal/strconv.uint64pow10" .u64 Lib.pow10Tab ∧ ∀ j, j < Lib.deBruijn64tab.length → w.cell? ⟨2, j, none⟩ = some (.int .u8 (Lib.deBruijn64tab.getD j 0))
theorem TS : Tryz.prog.globalNamed "internal/strconv.uint64pow10" = some 4 := by kernel_rfl
theorem Tabs.below{w w':World}(h:Tabs w)(hb:Below w.heap.size w w'):Tabs w':=by
 obtain⟨h1,h2⟩:=h
 refine⟨?_,λj hj=>?_⟩
 ·have lt:4<w.heap.size:=by
   apply Nat.lt_of_not_le
   intro hle
   have e:w.heap[4]? = none:=z7z hle
   unfold Lib.TabIs World.var? at h1
   rw[TS] at h1
   simp only[Option.bind_some,e] at h1
   cases h1
  exact var?_below hb TS lt h1
 ·have lt:2<w.heap.size:=by
   apply Nat.lt_of_not_le
   intro hle
   have e:w.heap[2]? = none:=z7z hle
   have:=h2 j hj
   simp only[World.cell?,e] at this
   cases this
  rw[hb.cell lt]
  exact h2 j hj
theorem Tabs.drewN{w:World}(h:Tabs w)(n:Nat):Tabs (w.drewN n):=h.below (below_drewN (Below.refl _ _) n)
theorem Qy{a b:List UInt8}(h:a=b):Ending.returned (.string ⟨a.toArray⟩)=.returned (.string ⟨b.toArray⟩):=by rw[h]
theorem YB{k:IntKind}{a a':Int}{b b':Bool}(h:a=a')(g:b=b'):Ending.returned (.tuple #[.int k a,.bool b])=.returned (.tuple #[.int k a',.bool b']):=by rw[h,g]
theorem int_eq{k:IntKind}{a b:Int}(h:a=b):Value.int k a=Value.int k b:=by rw[h]
theorem Kh(s:ByteArray)(k:Nat)(h:k<s.size):s.data.toList.take (k+1)=s.data.toList.take k++[s[k]]:=by
 rw[List.take_succ_eq_append_getElem (by simpa using h)];rfl
theorem Ng(s:ByteArray)(k:Nat)(h:¬k<s.size):s.data.toList.take k=s.data.toList:=List.take_of_length_le (by simp;omega)
theorem Ao(s:ByteArray):s.data.toList.length=s.size:=by simp
theorem Zx(w:World)(k:Nat)(os:Array Obj):Below w.heap.size w (Sort.grow (w.drewN k) os):=
 ⟨rfl,rfl,rfl,by simp[Sort.grow],λi hi=>by
  simp only[Sort.grow,World.drewN]
  rw[Array.getElem?_append_left hi]⟩
theorem uY(i:Int)(h0:-9223372036854775808<=i)(h1:i<=9223372036854775807)(w:World)(ht:Tabs w) :
  Calls prog 174 #[.int .i64 i,.int .i64 10] w λe w'=>e=.returned (.string ⟨(Dz i).toArray⟩)/\Below w.heap.size w w':=by
 refine(Tryz.strconv_FormatInt_10 i h0 h1 w ht.1).mono ?_
 rintro e w' ⟨rfl,k,os,rfl⟩
 exact⟨by rw[Yz],Zx _ _ _⟩
theorem aX(i:Int)(h0:-9223372036854775808<=i)(h1:i<=9223372036854775807)(w:World)(ht:Tabs w) :
  Calls prog 205 #[.int .i64 i] w λe w'=>e=.returned (.string ⟨(Dz i).toArray⟩)/\Below w.heap.size w w':=by
 refine(Tryz.strconv_Itoa i h0 h1 w ht.1).mono ?_
 rintro e w' ⟨rfl,k,os,rfl⟩
 exact⟨by rw[Yz],Zx _ _ _⟩
theorem Ma(s p:ByteArray)(w:World) :
  Calls prog 127 #[.string s,.string p] w λe w'=>e=.returned (.bool (z0z s.data.toList p.data.toList))/\w'=w:=Tryz.strings_HasPrefix s p w
theorem Ow(s p:ByteArray)(w:World) :
  Calls prog 166 #[.string s,.string p] w λe w'=>e=.returned (.tuple #[.string ⟨(z1z s.data.toList p.data.toList).toArray⟩,.bool (z0z s.data.toList p.data.toList)])/\w'=w:=Tryz.strings_CutPrefix s p w
theorem GY(c:UInt8)(w:World) :
  Calls prog 162 #[.string ⟨#[48,49,50,51,52,53,54,55,56,57,97,98,99,100,101,102]⟩,.int .u8 c.toNat] w λe w'=>e=.returned (.int .i64 (Aw c))/\w'=w:=by
 have h:=Tryz.strings_IndexByte ⟨#[48,49,50,51,52,53,54,55,56,57,97,98,99,100,101,102]⟩ (c.toNat:Int) w
 have e:Lib.indexByte (⟨#[48,49,50,51,52,53,54,55,56,57,97,98,99,100,101,102]⟩:ByteArray).data.toList ((c.toNat:Int).toNat.toUInt8)=Aw c:=by
  have e1:((c.toNat:Int).toNat.toUInt8)=c:=by simp
  rw[e1]
  exact AAX c
 rw[e] at h
 exact h
theorem PE(x:Int)(h0:0<x)(h1:x<18446744073709551616)(w:World) :
  Calls prog 87 #[.int .u64 x] w λe w'=>e=.returned (.int .i64 (x.toNat.log2+1))/\w'=w:=by
 refine(Tryz.bits_Len64 x w (by omega) (by omega)).mono ?_
 rintro e w' ⟨rfl,rfl⟩
 exact⟨by rw[AAP _ (by omega) (by omega)];rfl,rfl⟩
theorem tZ(x:Int)(h0:0<x)(h1:x<18446744073709551616)(w:World)(ht:Tabs w) :
  Calls prog 197 #[.int .u64 x] w λe w'=>e=.returned (.int .i64 (Ay x.toNat))/\w'=w:=by
 obtain⟨n,rfl⟩:=Int.eq_ofNat_of_zero_le (Int.le_of_lt h0)
 refine(Tryz.bits_TrailingZeros64 n (by omega) w (λ_=>ht.2)).mono ?_
 rintro e w' ⟨rfl,rfl⟩
 exact⟨by rw[ACN _ (by omega) (by omega)];rfl,rfl⟩
def Dh(l:List UInt8):Bool:=!l.isEmpty&&l.all AV
theorem YC(c:UInt8)(w:World) :
  Calls prog 199 #[.int .u8 c.toNat] w λe w'=>e=.returned (.bool (AV c))/\w'=w:=by
 go_enter func199,ntmps199
 go_wp2
 all_goals (go_ret;refine⟨Kg ?_,rfl⟩;simp only[AV];rw[Bool.eq_iff_iff];simp only[decide_eq_true_eq,Bool.false_eq_true,false_iff];omega)
theorem iO(s:ByteArray)(k:Nat)(h:k<s.size)(hd:AV s[k]=true)(ha:(s.data.toList.take k).all AV=true):(s.data.toList.take (k+1)).all AV=true:=by
 rw[Kh s k h,List.all_append,ha]
 simp[hd]
theorem pJ(s:ByteArray)(k:Nat)(h:k<s.size)(hd:AV s[k]=false):Dh s.data.toList=false:=by
 have e:s.data.toList.all AV=false:=by
  rw[List.all_eq_false]
  exact⟨s[k],by rw[<- z5z (k+1) s.data.toList,Kh s k h];simp,by rw[hd];decide⟩
 unfold Dh
 rw[e,Bool.and_false]
theorem toList_eq(s:ByteArray):s.toList=s.data.toList:=ByteArray.toList_eq s
theorem Jd(s:ByteArray)(hs:s.size<=maxLen)(w:World) :
  Calls prog 167 #[.string s] w λe w'=>e=.returned (.bool (Dh s.data.toList))/\w'=w:=by
 unfold maxLen at hs
 go_enter func167,ntmps167
 go_wp2_with fail
 go_loop [6] (λi=>∃k:Nat,k<=s.size/\i=.int .i64 k/\(s.data.toList.take k).all AV=true) (λi=>s.size-(intOf i).toNat)
 case atStart=>exact⟨0,z3z _,rfl,rfl⟩
 case round=>
  obtain⟨k,hk,rfl,ha⟩:=hrel
  by_cases hlt:k<s.size
  ·cases hd:AV s[k] with
   | true=>
    have R:=hid (iO s k hlt hd ha)
    clear ha
    go_wp2_with (go_at_call 199;refine(YC _ _).mono ?_;rintro e w' ⟨rfl,rfl⟩)
    go_round
    case rel=>exact⟨k+1,hlt,by go_num,R.out⟩
    case measure=>simp[intOf];omega
   | false=>
    have R:=hid (pJ s k hlt hd)
    clear ha
    go_wp2_with (go_at_call 199;refine(YC _ _).mono ?_;rintro e w' ⟨rfl,rfl⟩)
    go_ret
    exact⟨Kg R.out.symm,rfl⟩
  ·rw[Ng s k hlt] at ha
   have R:=hid (show Dh s.data.toList = !s.toList.isEmpty by unfold Dh;rw[ha,toList_eq,Bool.and_true])
   clear ha
   go_wp2_with fail
   go_ret
   exact⟨Kg R.out.symm,rfl⟩
theorem TB(l:List UInt8)(k:Nat):Ae (l.take k)<=Ae l:=by
 have e:Ae l=Ae (l.take k)*10 ^ (l.drop k).length+Ae (l.drop k):=by
  have:Ae l=Ae (l.take k++l.drop k):=by rw[z5z]
  rw[this]
  unfold Ae
  rw[List.foldl_append,Z5]
  rfl
 have p:1<=10 ^ (l.drop k).length:=Nat.one_le_pow _ _ (by decide)
 have:Ae (l.take k)*1<=Ae (l.take k)*10 ^ (l.drop k).length:=Nat.mul_le_mul_left _ p
 omega
theorem Pb(s:ByteArray)(k:Nat)(h:k<s.size):Ae (s.data.toList.take (k+1))=10*Ae (s.data.toList.take k)+(s[k].toNat-48):=by
 rw[Kh s k h,aZ]
theorem Ov(s:ByteArray)(h:s.data.toList.all AV=true)(k:Nat)(hk:k<s.size):48<=s[k].toNat/\s[k].toNat<=57:=by
 have:=List.all_eq_true.1 h s[k] (by rw[<- z5z (k+1) s.data.toList,Kh s k hk];simp)
 exact of_decide_eq_true this
def MZ(m:Bool):Int:=if m=true then 9223372036854775808 else 9223372036854775807
def Gw(m:Bool)(d:List UInt8):Int × Int:=if (Ae d:Int)<=MZ m then ((if m=true then -(Ae d:Int) else Ae d),0) else (0,13)
theorem XZ(m:Bool)(d:List UInt8)(h:MQ m d=true):FQ m d=Gw m d:=by
 unfold FQ Gw MZ
 rw[if_pos h]
 cases m
 ·simp only[Bool.false_eq_true,if_false]
  by_cases g:Ae d<9223372036854775808
  ·rw[if_pos g,if_pos (by omega)]
  ·rw[if_neg g,if_neg (by omega)]
 ·simp only[if_true]
  by_cases g:Ae d<=9223372036854775808
  ·rw[if_pos g,if_pos (by omega)]
  ·rw[if_neg g,if_neg (by omega)]
theorem fG(c:UInt8)(h:48<=c.toNat/\c.toNat<=57):IntKind.u64.wrap (IntKind.u8.wrap ((c.toNat:Int)-48))=(c.toNat:Int)-48:=by
 rw[IntKind.wrap_u8,IntKind.wrap_u64];omega
theorem WH(s:ByteArray)(m:Bool)(hs:s.size<=maxLen)(hd:s.data.toList.all AV=true)(w:World) :
  Calls prog 168 #[.string s,.bool m] w λe w'=>e=.returned (.tuple #[.int .i64 (Gw m s.data.toList).1,.int .i64 (Gw m s.data.toList).2])/\w'=w:=by
 unfold maxLen at hs
 have HD:=hid hd
 clear hd
 cases m with
 | false=>
  go_enter func168,ntmps168
  go_wp2_with fail
  go_loop [7,15] (λv i=>∃k:Nat,k<=s.size/\i=.int .i64 k/\v=.int .u64 (Ae (s.data.toList.take k))/\(Ae (s.data.toList.take k):Int)<=9223372036854775807) (λ_ i=>s.size-(intOf i).toNat)
  case atStart=>exact⟨0,z3z _,rfl,rfl,by simp[Ae]⟩
  case round=>
   obtain⟨k,hk,rfl,rfl,hv⟩:=hrel
   by_cases hlt:k<s.size
   ·obtain⟨d0,d1⟩:=Ov s HD.out k hlt
    have st:=Pb s k hlt
    have HT:=hid (TB s.data.toList (k+1))
    have e1:=fG s[k] ⟨d0,d1⟩
    by_cases hf:(Ae (s.data.toList.take (k+1)):Int)<=9223372036854775807
    ·have HS:=hid st
     have e3:¬ (9223372036854775807-((s[k].toNat:Int)-48)).tdiv 10<(Ae (s.data.toList.take k):Int):=by rw[z4z (by omega)];omega
     have e3':¬ (9223372036854775807-((s[k].toNat:Int)-48))/10<(Ae (s.data.toList.take k):Int):=by omega
     have HF:=hid hf
     clear st hf
     go_wp2_with fail
     go_round
     case rel=>exact⟨k+1,hlt,by go_num,int_eq (by have:=HS.out;have:=HF.out;go_num),HF.out⟩
     case measure=>simp[intOf];omega
    ·have e3:(9223372036854775807-((s[k].toNat:Int)-48)).tdiv 10<(Ae (s.data.toList.take k):Int):=by rw[z4z (by omega)];omega
     have e3':(9223372036854775807-((s[k].toNat:Int)-48))/10<(Ae (s.data.toList.take k):Int):=by omega
     have HF:=hid hf
     clear st hf
     go_wp2_with fail
     go_ret2
     have E:Gw false s.data.toList=(0,13):=by
      have:=HT.out
      have:=HF.out
      unfold Gw MZ
      rw[if_neg (by simp;omega)]
     exact⟨Im (by rw[E]) (by rw[E]),rfl⟩
   ·rw[Ng s k hlt] at hv ⊢
    have HV:=hid hv
    clear hv
    go_wp2_with fail
    go_ret2
    have E:Gw false s.data.toList=((Ae s.data.toList:Int),0):=by
     have:=HV.out
     unfold Gw MZ
     rw[if_pos (by simp;omega)]
     rfl
    have:=HV.out
    exact⟨Im (by rw[E];simp only[wrap64];omega) (by rw[E]),rfl⟩
 | true=>
  go_enter func168,ntmps168
  go_wp2_with fail
  go_loop [7,15] (λv i=>∃k:Nat,k<=s.size/\i=.int .i64 k/\v=.int .u64 (Ae (s.data.toList.take k))/\(Ae (s.data.toList.take k):Int)<=9223372036854775808) (λ_ i=>s.size-(intOf i).toNat)
  case atStart=>exact⟨0,z3z _,rfl,rfl,by simp[Ae]⟩
  case round=>
   obtain⟨k,hk,rfl,rfl,hv⟩:=hrel
   by_cases hlt:k<s.size
   ·obtain⟨d0,d1⟩:=Ov s HD.out k hlt
    have st:=Pb s k hlt
    have HT:=hid (TB s.data.toList (k+1))
    have e1:=fG s[k] ⟨d0,d1⟩
    by_cases hf:(Ae (s.data.toList.take (k+1)):Int)<=9223372036854775808
    ·have HS:=hid st
     have e3:¬ (9223372036854775808-((s[k].toNat:Int)-48)).tdiv 10<(Ae (s.data.toList.take k):Int):=by rw[z4z (by omega)];omega
     have e3':¬ (9223372036854775808-((s[k].toNat:Int)-48))/10<(Ae (s.data.toList.take k):Int):=by omega
     have HF:=hid hf
     clear st hf
     go_wp2_with fail
     go_round
     case rel=>exact⟨k+1,hlt,by go_num,int_eq (by have:=HS.out;have:=HF.out;go_num),HF.out⟩
     case measure=>simp[intOf];omega
    ·have e3:(9223372036854775808-((s[k].toNat:Int)-48)).tdiv 10<(Ae (s.data.toList.take k):Int):=by rw[z4z (by omega)];omega
     have e3':(9223372036854775808-((s[k].toNat:Int)-48))/10<(Ae (s.data.toList.take k):Int):=by omega
     have HF:=hid hf
     clear st hf
     go_wp2_with fail
     go_ret2
     have E:Gw true s.data.toList=(0,13):=by
      have:=HT.out
      have:=HF.out
      unfold Gw MZ
      rw[if_neg (by simp;omega)]
     exact⟨Im (by rw[E]) (by rw[E]),rfl⟩
   ·rw[Ng s k hlt] at hv ⊢
    have HV:=hid hv
    clear hv
    go_wp2_with fail
    go_ret2
    have E:Gw true s.data.toList=(-(Ae s.data.toList:Int),0):=by
     have:=HV.out
     unfold Gw MZ
     rw[if_pos (by simp;omega)]
     rfl
    have:=HV.out
    exact⟨Im (by rw[E];simp only[wrap64,IntKind.wrap_u64];omega) (by rw[E]),rfl⟩
theorem yY(i:Int)(h0:-9223372036854775808<=i)(h1:i<=9223372036854775807)(w:World)(ht:Tabs w) :
  Calls prog 152 #[.int .i64 i] w λe w'=>e=.returned (.string ⟨(Dz i).toArray⟩)/\Below w.heap.size w w':=by
 go_enter func152,ntmps152
 go_wp2_with (go_at_call 174;refine(uY i h0 h1 _ ht).mono ?_;rintro e w' ⟨rfl,hb⟩)
 go_ret
 exact⟨rfl,hb⟩
def Cb(l:List UInt8):List UInt8:=match l with|45::d=>d|d=>d
def Hr(l:List UInt8):Bool:=match l with|45::_=>true|_=>false
theorem Vx(l:List UInt8)(h:∀d,l=45::d->False):Hr l=false/\Cb l=l:=by
 unfold Hr Cb
 constructor
 ·split
  ·rename_i e;exact(h _ rfl).elim
  ·rfl
 ·split
  ·rename_i e;exact(h _ rfl).elim
  ·rfl
theorem ABZ(l:List UInt8)(h:l.length<=64):Dg l=FQ (Hr l) (Cb l):=by
 unfold Dg
 rw[if_neg (by omega)]
 split
 ·rfl
 ·rename_i hn
  obtain⟨e1,e2⟩:=Vx l hn
  rw[e1,e2]
theorem uj(l:List UInt8):MQ (Hr l) (Cb l)=(Dh (Cb l) && !((Cb l).head? == some 48 && !(l==[48]))):=by
 unfold MQ Dh
 congr 2
 cases l with
 | nil=>rfl
 | cons c r=>
  by_cases h:c=45
  ·subst h
   have e:((45::r:List UInt8)==[48])=false:=by rw[beq_eq_false_iff_ne];intro e;injection e with e1 e2;revert e1;decide
   show (r.head? == some 48&&(decide (1<r.length)||true))=_
   rw[e,Bool.or_true]
   rfl
  ·have e1:Cb (c::r)=c::r:=by
    unfold Cb
    split
    ·rename_i e1;injection e1 with e2 e3;exact absurd e2 h
    ·rfl
   have e2:Hr (c::r)=false:=by
    unfold Hr
    split
    ·rename_i e1;injection e1 with e2 e3;exact absurd e2 h
    ·rfl
   rw[e1,e2,Bool.or_false]
   cases hc:((c::r).head? == some 48) with
   | false=>rfl
   | true=>
    simp only[List.head?_cons] at hc
    have:c=48:=by simpa using hc
    subst this
    cases r with
    | nil=>rfl
    | cons d r=>simp
theorem Zo(l:List UInt8):(Cb l).length<=l.length:=by
 unfold Cb
 split <;> simp
theorem TN(s:ByteArray)(w:World) :
  Calls prog 166 #[.string s,.string ⟨#[45]⟩] w λe w'=>e=.returned (.tuple #[.string ⟨(Cb s.data.toList).toArray⟩,.bool (Hr s.data.toList)])/\w'=w:=by
 obtain⟨p1,p2⟩:=jW s.data.toList
 have h:=Ow s ⟨#[45]⟩ w
 have e1:z0z s.data.toList (⟨#[45]⟩:ByteArray).data.toList=Hr s.data.toList:=p1
 have e2:z1z s.data.toList (⟨#[45]⟩:ByteArray).data.toList=Cb s.data.toList:=p2
 rw[e1,e2] at h
 exact h
theorem AA2(D:ByteArray)(h:0<D.size):(D.data.toList.head? == some 48)=((D[0].toNat:Int)==48):=by
 obtain⟨⟨l⟩⟩:=D
 cases l with
 | nil=>exact absurd h (by decide)
 | cons c r=>
  show (some c==some 48)=((c.toNat:Int)==48)
  rw[Bool.eq_iff_iff,beq_iff_eq,beq_iff_eq]
  constructor
  ·intro e;injection e with e;subst e;rfl
  ·intro e
   congr 1
   apply UInt8.toNat_inj.1
   have:c.toNat=48:=by omega
   rw[this];rfl
theorem yF(s D:ByteArray)(m:Bool)(x e:Int)(w:World)(h64:s.size<=64)(hD:D.size<=64)
  (hcut:∀w,Calls prog 166 #[.string s,.string ⟨#[45]⟩] w λe w'=>e=.returned (.tuple #[.string D,.bool m])/\w'=w)
  (hR:(Dh D.data.toList=false/\x=0/\e=20)\/(Dh D.data.toList=true/\0<D.size/\((∃h:0<D.size,((D[0].toNat:Int)==48)=true)/\(s.toList==[48])=false/\x=0/\e=20 \/
   ((∃h:0<D.size,((D[0].toNat:Int)==48)=false)\/(∃h:0<D.size,((D[0].toNat:Int)==48)=true)/\(s.toList==[48])=true)/\x=(Gw m D.data.toList).1/\e=(Gw m D.data.toList).2))) :
  Calls prog 131 #[.string s] w λr w'=>r=.returned (.tuple #[.int .i64 x,.int .i64 e])/\w'=w:=by
 have ml:D.size<=maxLen:=by unfold maxLen;omega
 rcases hR with⟨h1,rfl,rfl⟩|⟨h1,hp,⟨⟨_,h2⟩,h3,rfl,rfl⟩|⟨⟨_,h2⟩|⟨⟨_,h2⟩,h3⟩,rfl,rfl⟩⟩
 ·go_enter func131,ntmps131
  go_wp2_with (first|(go_at_call 166;refine(hcut _).mono ?_;rintro e w' ⟨rfl,rfl⟩)|(go_at_call 167;refine(Jd _ ml _).mono ?_;rintro e w' ⟨rfl,rfl⟩))
  go_ret2
  exact⟨rfl,rfl⟩
 ·go_enter func131,ntmps131
  go_wp2_with (first|(go_at_call 166;refine(hcut _).mono ?_;rintro e w' ⟨rfl,rfl⟩)|(go_at_call 167;refine(Jd _ ml _).mono ?_;rintro e w' ⟨rfl,rfl⟩))
  go_ret2
  exact⟨rfl,rfl⟩
 ·have hd:D.data.toList.all AV=true:=by unfold Dh at h1;rw[z2z] at h1;exact h1.2
  have c:=WH D m ml hd
  clear hd
  go_enter func131,ntmps131
  go_wp2_with (first|(go_at_call 166;refine(hcut _).mono ?_;rintro e w' ⟨rfl,rfl⟩)|(go_at_call 167;refine(Jd _ ml _).mono ?_;rintro e w' ⟨rfl,rfl⟩)|(go_at_call 168;refine(c _).mono ?_;rintro e w' ⟨rfl,rfl⟩))
  go_ret2
  exact⟨rfl,rfl⟩
 ·have hd:D.data.toList.all AV=true:=by unfold Dh at h1;rw[z2z] at h1;exact h1.2
  have c:=WH D m ml hd
  clear hd
  go_enter func131,ntmps131
  go_wp2_with (first|(go_at_call 166;refine(hcut _).mono ?_;rintro e w' ⟨rfl,rfl⟩)|(go_at_call 167;refine(Jd _ ml _).mono ?_;rintro e w' ⟨rfl,rfl⟩)|(go_at_call 168;refine(c _).mono ?_;rintro e w' ⟨rfl,rfl⟩))
  go_ret2
  exact⟨rfl,rfl⟩
theorem gQ(s:ByteArray)(hs:s.size<=maxLen)(w:World) :
  Calls prog 131 #[.string s] w λe w'=>e=.returned (.tuple #[.int .i64 (Dg s.data.toList).1,.int .i64 (Dg s.data.toList).2])/\w'=w:=by
 unfold maxLen at hs
 have sl:=Ao s
 by_cases c:s.size<=64
 ·have er:=ABZ s.data.toList (by omega)
  have ef:=uj s.data.toList
  have rl:=Zo s.data.toList
  have hc:=TN s
  obtain⟨D,hD⟩:∃D:ByteArray,D=⟨(Cb s.data.toList).toArray⟩:=⟨_,rfl⟩
  have hDl:D.data.toList=Cb s.data.toList:=by rw[hD]
  have hDs:=Ao D
  rw[<- hD] at hc
  rw[<- hDl] at ef er rl
  refine yF s D _ _ _ w c (by omega) hc ?_
  rw[er]
  cases ha:Dh D.data.toList with
  | false=>
   rw[ha,Bool.false_and] at ef
   unfold FQ
   rw[if_neg (by rw[ef];decide)]
   exact Or.inl ⟨rfl,rfl,rfl⟩
  | true=>
   have hp:0<D.size:=by
    unfold Dh at ha
    rw[z2z] at ha
    have:D.data.toList≠[]:=by simpa using ha.1
    have:=List.length_pos_iff.2 this
    omega
   rw[ha,Bool.true_and,AA2 D hp] at ef
   have es:(s.toList==[48])=(s.data.toList==[48]):=by rw[toList_eq]
   refine Or.inr ⟨rfl,hp,?_⟩
   rw[es]
   cases hh:((D[0].toNat:Int)==48) with
   | false=>
    rw[hh] at ef
    rw[XZ _ _ ef]
    exact Or.inr ⟨Or.inl ⟨hp,hh⟩,rfl,rfl⟩
   | true=>
    cases h0:(s.data.toList==[48]) with
    | true=>
     rw[hh,h0] at ef
     rw[XZ _ _ ef]
     exact Or.inr ⟨Or.inr ⟨⟨hp,hh⟩,rfl⟩,rfl,rfl⟩
    | false=>
     rw[hh,h0] at ef
     unfold FQ
     rw[if_neg (by rw[ef];decide)]
     exact Or.inl ⟨⟨hp,hh⟩,rfl,rfl,rfl⟩
 ·have E:Dg s.data.toList=(0,2):=by unfold Dg;rw[if_pos (by omega)]
  have H:=hid E
  clear E
  go_enter func131,ntmps131
  go_wp2_with fail
  go_ret2
  exact⟨Im (by rw[H.out]) (by rw[H.out]),rfl⟩
theorem Ux(l:List UInt8)(a b:UInt8):(z0z l [a,b]=true/\l=a::b::z1z l [a,b])\/(z0z l [a,b]=false/\z1z l [a,b]=l/\∀r,l≠a::b::r):=by
 unfold z1z z0z
 by_cases h:∃r,l=a::b::r
 ·obtain⟨r,rfl⟩:=h
  refine Or.inl ⟨by simp[z6z],?_⟩
  simp[z6z]
 ·refine Or.inr ?_
  have e:z6z [a,b] l=false:=by
   rw[Bool.eq_false_iff]
   intro e
   rw[List.isPrefixOf_iff_prefix] at e
   obtain⟨r,hr⟩:=e
   exact h ⟨r,hr.symm⟩
  rw[e]
  exact⟨rfl,rfl,λr hr=>h ⟨r,hr⟩⟩
def Ep(r:List UInt8):Option Int:=
 match r with
 | 112::sg::ds=>if (sg=43\/sg=45)/\ds≠[]/\ds.length<=5/\ds.all AV=true then some (if sg=45 then -(Ae ds:Int) else Ae ds) else none
 | _=>none
theorem Xx(N b:Nat)(r:List UInt8):KT N b r=(Ep r).map λp=>(N,p-4*(b:Int)):=by
 unfold KT Ep
 split
 ·rename_i sg ds
  by_cases h:(sg=43\/sg=45)/\ds≠[]/\ds.length<=5/\ds.all AV=true
  ·simp only[if_pos h];rfl
  ·simp only[if_neg h];rfl
 ·rename_i hn
  split
  ·exact(hn _ _ rfl).elim
  ·rfl
theorem XU(sg:UInt8)(ds:List UInt8)(h1:sg=43\/sg=45):Ep (112::sg::ds)=if Dh ds=true/\ds.length<=5 then some (if sg=45 then -(Ae ds:Int) else Ae ds) else none:=by
 unfold Ep Dh
 have e:((sg=43\/sg=45)/\ds≠[]/\ds.length<=5/\ds.all AV=true)↔((!ds.isEmpty&&ds.all AV)=true/\ds.length<=5):=by
  rw[z2z]
  constructor
  ·rintro⟨-,a,b,c⟩
   exact⟨⟨by simpa using a,c⟩,b⟩
  ·rintro⟨⟨a,c⟩,b⟩
   exact⟨h1,by simpa using a,b,c⟩
 by_cases h:(sg=43\/sg=45)/\ds≠[]/\ds.length<=5/\ds.all AV=true
 ·simp only[if_pos h,if_pos (e.1 h)]
 ·simp only[if_neg h,if_neg (λg=>h (e.2 g))]
theorem vC(r:List UInt8)(h1:∀d,r≠112::43::d)(h2:∀d,r≠112::45::d):Ep r=none:=by
 unfold Ep
 split
 ·rename_i sg ds
  rw[if_neg]
  rintro⟨e|e,-⟩
  ·exact h1 ds (by rw[e])
  ·exact h2 ds (by rw[e])
 ·rfl
theorem QN(s:ByteArray)(h:s.data.toList.all AV=true)(hs:s.size<=5)(k:Nat):Ae (s.data.toList.take k)<100000:=by
 have h1:=TB s.data.toList k
 have h2:=YU s.data.toList (λc hc=>of_decide_eq_true (List.all_eq_true.1 h c hc))
 have h3:10 ^ s.data.toList.length<=10 ^ 5:=Nat.pow_le_pow_right (by decide) (by rw[Ao];omega)
 have h4:(10:Nat) ^ 5=100000:=by decide
 omega
theorem ak(c:UInt8)(h:48<=c.toNat/\c.toNat<=57):IntKind.i64.wrap (IntKind.u8.wrap ((c.toNat:Int)-48))=(c.toNat:Int)-48:=by
 rw[IntKind.wrap_u8,IntKind.wrap_i64];omega
def J6(m:Bool)(l:List UInt8):Value:=if Dh l=true/\l.length<=5 then .tuple #[.int .i64 (if m=true then -(Ae l:Int) else Ae l),.bool true] else .tuple #[.int .i64 0,.bool false]
theorem Mh(m:Bool)(l:List UInt8)(h:¬ (Dh l=true/\l.length<=5)):J6 m l=.tuple #[.int .i64 0,.bool false]:=by unfold J6;rw[if_neg h]
theorem QM(m:Bool)(l:List UInt8)(h:Dh l=true/\l.length<=5):J6 m l=.tuple #[.int .i64 (if m=true then -(Ae l:Int) else Ae l),.bool true]:=by unfold J6;rw[if_pos h]
theorem ABJ(s D:ByteArray)(w:World)(hD:D.size<=maxLen)
  (c1:∀w,Calls prog 166 #[.string s,.string ⟨#[112,43]⟩] w λe w'=>e=.returned (.tuple #[.string D,.bool true])/\w'=w) :
  Calls prog 196 #[.string s] w λe w'=>e=.returned (J6 false D.data.toList)/\w'=w:=by
 have sz:=Ao D
 by_cases h5:D.size<=5
 ·cases ha:Dh D.data.toList with
  | false=>
   have H:=hid (Mh false D.data.toList (by rw[ha];rintro⟨h,-⟩;cases h))
   go_enter func196,ntmps196
   go_wp2_with ((with_reducible (apply Calls.mono;first|exact c1 _|exact Jd _ hD _));rintro e w' ⟨rfl,rfl⟩)
   go_ret2
   exact⟨by rw[H.out];rfl,rfl⟩
  | true=>
   have hd:D.data.toList.all AV=true:=by unfold Dh at ha;rw[z2z] at ha;exact ha.2
   have HD:=hid hd
   have H:=hid (QM false D.data.toList ⟨ha,by omega⟩)
   clear hd
   go_enter func196,ntmps196
   go_wp2_with ((with_reducible (apply Calls.mono;first|exact c1 _|exact Jd _ hD _));rintro e w' ⟨rfl,rfl⟩)
   go_loop [7,33] (λv i=>∃k:Nat,k<=D.size/\i=.int .i64 k/\v=.int .i64 (Ae (D.data.toList.take k))) (λ_ i=>D.size-(intOf i).toNat)
   case atStart=>exact⟨0,z3z _,rfl,rfl⟩
   case round=>
    obtain⟨k,hk,rfl,rfl⟩:=hrel
    by_cases hlt:k<D.size
    ·obtain⟨d0,d1⟩:=Ov D HD.out k hlt
     have HS:=hid (Pb D k hlt)
     have e1:=ak D[k] ⟨d0,d1⟩
     have hv:=QN D HD.out h5 k
     go_wp2_with fail
     go_round
     case rel=>exact⟨k+1,hlt,by go_num,int_eq (by have:=HS.out;go_num)⟩
     case measure=>simp[intOf];omega
    ·have hv:=QN D HD.out h5 k
     rw[Ng D k hlt] at hv ⊢
     go_wp2_with fail
     go_ret2
     refine⟨?_,rfl⟩
     rw[H.out]
     exact YB (by rw[if_neg (by decide)]) rfl
 ·go_enter func196,ntmps196
  have H:=hid (Mh false D.data.toList (by rintro⟨-,h⟩;omega))
  go_wp2_with ((with_reducible (apply Calls.mono;first|exact c1 _|exact Jd _ hD _));rintro e w' ⟨rfl,rfl⟩)
  go_ret2
  exact⟨by rw[H.out];rfl,rfl⟩
theorem mY(s D D0:ByteArray)(w:World)(hD:D.size<=maxLen)
  (c1:∀w,Calls prog 166 #[.string s,.string ⟨#[112,43]⟩] w λe w'=>e=.returned (.tuple #[.string D0,.bool false])/\w'=w)
  (c2:∀w,Calls prog 166 #[.string s,.string ⟨#[112,45]⟩] w λe w'=>e=.returned (.tuple #[.string D,.bool true])/\w'=w) :
  Calls prog 196 #[.string s] w λe w'=>e=.returned (J6 true D.data.toList)/\w'=w:=by
 have sz:=Ao D
 by_cases h5:D.size<=5
 ·cases ha:Dh D.data.toList with
  | false=>
   have H:=hid (Mh true D.data.toList (by rw[ha];rintro⟨h,-⟩;cases h))
   go_enter func196,ntmps196
   go_wp2_with ((with_reducible (apply Calls.mono;first|exact c1 _|exact c2 _|exact Jd _ hD _));rintro e w' ⟨rfl,rfl⟩)
   go_ret2
   exact⟨by rw[H.out];rfl,rfl⟩
  | true=>
   have hd:D.data.toList.all AV=true:=by unfold Dh at ha;rw[z2z] at ha;exact ha.2
   have HD:=hid hd
   have H:=hid (QM true D.data.toList ⟨ha,by omega⟩)
   clear hd
   go_enter func196,ntmps196
   go_wp2_with ((with_reducible (apply Calls.mono;first|exact c1 _|exact c2 _|exact Jd _ hD _));rintro e w' ⟨rfl,rfl⟩)
   go_loop [7,33] (λv i=>∃k:Nat,k<=D.size/\i=.int .i64 k/\v=.int .i64 (Ae (D.data.toList.take k))) (λ_ i=>D.size-(intOf i).toNat)
   case atStart=>exact⟨0,z3z _,rfl,rfl⟩
   case round=>
    obtain⟨k,hk,rfl,rfl⟩:=hrel
    by_cases hlt:k<D.size
    ·obtain⟨d0,d1⟩:=Ov D HD.out k hlt
     have HS:=hid (Pb D k hlt)
     have e1:=ak D[k] ⟨d0,d1⟩
     have hv:=QN D HD.out h5 k
     go_wp2_with fail
     go_round
     case rel=>exact⟨k+1,hlt,by go_num,int_eq (by have:=HS.out;go_num)⟩
     case measure=>simp[intOf];omega
    ·have hv:=QN D HD.out h5 k
     rw[Ng D k hlt] at hv ⊢
     go_wp2_with fail
     go_ret2
     refine⟨?_,rfl⟩
     rw[H.out]
     exact YB (by rw[if_pos trivial]) rfl
 ·go_enter func196,ntmps196
  have H:=hid (Mh true D.data.toList (by rintro⟨-,h⟩;omega))
  go_wp2_with ((with_reducible (apply Calls.mono;first|exact c1 _|exact c2 _|exact Jd _ hD _));rintro e w' ⟨rfl,rfl⟩)
  go_ret2
  exact⟨by rw[H.out];rfl,rfl⟩
theorem ABn(s D0 D1:ByteArray)(w:World)
  (c1:∀w,Calls prog 166 #[.string s,.string ⟨#[112,43]⟩] w λe w'=>e=.returned (.tuple #[.string D0,.bool false])/\w'=w)
  (c2:∀w,Calls prog 166 #[.string s,.string ⟨#[112,45]⟩] w λe w'=>e=.returned (.tuple #[.string D1,.bool false])/\w'=w) :
  Calls prog 196 #[.string s] w λe w'=>e=.returned (.tuple #[.int .i64 0,.bool false])/\w'=w:=by
 go_enter func196,ntmps196
 go_wp2_with (go_at_call 166;(first|(with_reducible refine(c1 _).mono ?_)|(with_reducible refine(c2 _).mono ?_));rintro e w' ⟨rfl,rfl⟩)
 go_ret2
 exact⟨rfl,rfl⟩
theorem YV(s:ByteArray)(hs:s.size<=maxLen)(w:World) :
  Calls prog 196 #[.string s] w λe w'=>e=.returned (.tuple #[.int .i64 ((Ep s.data.toList).getD 0),.bool (Ep s.data.toList).isSome])/\w'=w:=by
 have k1:=λw=>Ow s ⟨#[112,43]⟩ w
 have k2:=λw=>Ow s ⟨#[112,45]⟩ w
 have sz:=Ao s
 rcases Ux s.data.toList 112 43 with⟨h1,h2⟩|⟨h1,h2,h3⟩
 ·have e1:z0z s.data.toList (⟨#[112,43]⟩:ByteArray).data.toList=true:=h1
  generalize hd:z1z s.data.toList [112,43]=d at h2
  have e2:z1z s.data.toList (⟨#[112,43]⟩:ByteArray).data.toList=d:=hd
  rw[e1,e2] at k1
  have hsz:(⟨d.toArray⟩:ByteArray).size=d.length:=by rw[<- Ao]
  refine(ABJ s ⟨d.toArray⟩ w (by rw[hsz];rw[h2] at sz;simp at sz;omega) k1).mono ?_
  rintro e w' ⟨rfl,rfl⟩
  refine⟨?_,rfl⟩
  rw[h2,XU 43 d (Or.inl rfl)]
  show Ending.returned (J6 false d)=_
  by_cases g:Dh d=true/\d.length<=5
  ·rw[QM _ _ g,if_pos g];rfl
  ·rw[Mh _ _ g,if_neg g];rfl
 ·have e1:z0z s.data.toList (⟨#[112,43]⟩:ByteArray).data.toList=false:=h1
  rw[e1] at k1
  rcases Ux s.data.toList 112 45 with⟨g1,g2⟩|⟨g1,g2,g3⟩
  ·have e1:z0z s.data.toList (⟨#[112,45]⟩:ByteArray).data.toList=true:=g1
   generalize hd:z1z s.data.toList [112,45]=d at g2
   have e2:z1z s.data.toList (⟨#[112,45]⟩:ByteArray).data.toList=d:=hd
   rw[e1,e2] at k2
   have hsz:(⟨d.toArray⟩:ByteArray).size=d.length:=by rw[<- Ao]
   refine(mY s ⟨d.toArray⟩ _ w (by rw[hsz];rw[g2] at sz;simp at sz;omega) k1 k2).mono ?_
   rintro e w' ⟨rfl,rfl⟩
   refine⟨?_,rfl⟩
   rw[g2,XU 45 d (Or.inr rfl)]
   show Ending.returned (J6 true d)=_
   by_cases g:Dh d=true/\d.length<=5
   ·rw[QM _ _ g,if_pos g];rfl
   ·rw[Mh _ _ g,if_neg g];rfl
  ·have e1:z0z s.data.toList (⟨#[112,45]⟩:ByteArray).data.toList=false:=g1
   rw[e1] at k2
   refine(ABn s _ _ w k1 k2).mono ?_
   rintro e w' ⟨rfl,rfl⟩
   refine⟨?_,rfl⟩
   rw[vC _ h3 g3];rfl
end Go.Proofs.YtjplieobnknnpaaGreatDoor.W

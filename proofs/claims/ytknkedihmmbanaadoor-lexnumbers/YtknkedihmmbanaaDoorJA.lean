import Derived.Laws.FloatArith
import Derived.Deep.Draws
import Derived.Laws.NewFold
import Derived.Test.YtknkedihmmbanaaDoorProg
import Derived.WalkKit
import Derived.WalkLawsBesides
import Derived.Laws.Externs
import Derived.Laws.BitsAllLaws
import Derived.KernelRfl
import Derived.Deep.QuietTactic
import Derived.BigQuiet
open List renaming length_cons → z3z, head?_cons → z12z, foldl_cons → z19z, length_append → z20z, length_nil → z21z
open Nat renaming pow_add → z0z, mul_assoc → z1z, two_pow_pos → z2z, eq_of_mul_eq_mul_right → z4z, mul_comm → z5z, pow_succ → z6z, zero_add → z7z, mul_one → z8z, pow_le_pow_right → z9z, pow_zero → z10z, strongRecOn → z11z, mul_lt_mul_of_pos_right → z14z, zero_mul → z15z, mul_le_mul_right → z16z, add_mul → z17z, mul_zero → z18z
open Bool renaming false_eq_true → z13z
set_option maxRecDepth 1000000
set_option maxHeartbeats 8000000
namespace Go.Proofs.YtknkedihmmbanaaDoor.W
open Ieee
def nanB(n:Int):Bool:=decide (9218868437227405312<n%9223372036854775808)
def fltW(n:Int):Int:=if nanB n=true then 9221120237041090560 else n
theorem D_sign:Ieee.double.signWeight=9223372036854775808:=by decide
theorem D_bin:Ieee.double.binade=4503599627370496:=by decide
theorem D_inf:Ieee.double.infRung=9218868437227405312:=by decide
theorem D_least:Ieee.double.leastPlace = -1074:=by decide
theorem read_eq(x:Nat):Ieee.double.read x =
  if x%9223372036854775808<4503599627370496 then .number (x/9223372036854775808%2==1) (x%9223372036854775808) (-1074)
  else if x%9223372036854775808<9218868437227405312 then
   .number (x/9223372036854775808%2==1) (4503599627370496+x%9223372036854775808%4503599627370496) (-1074+(x%9223372036854775808/4503599627370496-1:Nat))
  else if x%9223372036854775808=9218868437227405312 then .infinity (x/9223372036854775808%2==1)
  else .nan (x/9223372036854775808%2==1) (x%9223372036854775808-9218868437227405312):=by
 unfold Format.read
 simp only[D_sign,D_bin,D_inf,D_least]
def opI(op:BinOp)(a b:Int):Int:=match floatBits op .f64 a.toNat b.toNat with|some r=>(r:Int)|none=>9221120237041090560
open Go.ChangeShapes Go.WideShapes Go.RowKit
theorem ret_bool{a b:Bool}(h:a=b):Ending.returned (.bool a)=.returned (.bool b):=by rw[h]
theorem ret_int{k:IntKind}{a b:Int}(h:a=b):Ending.returned (.int k a)=.returned (.int k b):=by rw[h]
theorem ret_ii{k l:IntKind}{a a' b b':Int}(h:a=a')(g:b=b'):Ending.returned (.tuple #[.int k a,.int l b])=.returned (.tuple #[.int k a',.int l b']):=by rw[h,g]
theorem hid{p:Prop}(h:p):Hid p:=h
theorem read_number{x:Nat}{s:Bool}{m:Nat}{p:Int}(hx:x<18446744073709551616)(h:Ieee.double.read x=.number s m p) :
  m<9007199254740992/\-1074<=p/\p<=971/\(4503599627370496<=m\/p = -1074)/\x=(if s then 9223372036854775808 else 0)+((p+1074).toNat*4503599627370496+m):=by
 rw[read_eq] at h
 have hs:(if (x/9223372036854775808%2==1)=true then 9223372036854775808 else 0)=x/9223372036854775808*9223372036854775808:=by
  by_cases g:x/9223372036854775808%2=1
  ·simp[g];omega
  ·simp[g];omega
 split at h
 ·cases h
  refine⟨by omega,by omega,by omega,Or.inr rfl,?_⟩
  rw[hs];omega
 ·split at h
  ·cases h
   refine⟨by omega,by omega,by omega,Or.inl (by omega),?_⟩
   rw[hs];omega
  ·split at h <;> cases h
def bigOf(k:Nat):Nat:=2 ^ k
def big:Nat:=bigOf 2200
def key:Datum->Int
 | .number s m p=>signed s m (p+1074).toNat
 | .infinity s=>if s then -(big:Int) else (big:Int)
 | .nan _ _=>0
theorem sum_comm(a b:Datum):a.sum b=b.sum a:=by
 cases a with
 | nan s t=>cases b <;> rfl
 | infinity s=>
  cases b with
  | nan s t=>rfl
  | infinity t=>cases s <;> cases t <;> rfl
  | number t n j=>rfl
 | number s m i=>
  cases b with
  | nan s t=>rfl
  | infinity t=>rfl
  | number t n j=>
   simp only[Datum.sum]
   rw[show min j i=min i j from by omega,Int.add_comm (signed s m _),Bool.and_comm s t]
theorem product_comm(a b:Datum):a.product b=b.product a:=by
 cases a with
 | nan s t=>cases b <;> rfl
 | infinity s=>
  cases b with
  | nan s t=>rfl
  | infinity t=>simp only[Datum.product];rw[Bool.xor_comm]
  | number t n j=>rfl
 | number s m i=>
  cases b with
  | nan s t=>rfl
  | infinity t=>rfl
  | number t n j=>
   simp only[Datum.product]
   rw[Bool.xor_comm,z5z,Int.add_comm]
theorem add_comm(a b:Int):opI .add a b=opI .add b a:=by
 have e:floatBits .add .f64 a.toNat b.toNat=floatBits .add .f64 b.toNat a.toNat:=by
  show ((Ieee.double.read a.toNat).sum (Ieee.double.read b.toNat)).map Ieee.double.write=((Ieee.double.read b.toNat).sum (Ieee.double.read a.toNat)).map Ieee.double.write
  rw[sum_comm]
 unfold opI;rw[e]
theorem mul_comm(a b:Int):opI .mul a b=opI .mul b a:=by
 have e:floatBits .mul .f64 a.toNat b.toNat=floatBits .mul .f64 b.toNat a.toNat:=by
  show ((Ieee.double.read a.toNat).product (Ieee.double.read b.toNat)).map Ieee.double.write=((Ieee.double.read b.toNat).product (Ieee.double.read a.toNat)).map Ieee.double.write
  rw[product_comm]
 unfold opI;rw[e]
def keyI(a:Int):Int:=key (Ieee.double.read a.toNat)
def finB(a:Int):Bool:=decide (a%9223372036854775808<9218868437227405312)
theorem fin_read(a:Int)(h:finB a=true):∃s m p,Ieee.double.read a.toNat=.number s m p:=by
 rw[read_eq]
 simp only[finB,decide_eq_true_eq] at h
 split
 ·exact⟨_,_,_,rfl⟩
 ·rw[if_pos (by omega)];exact⟨_,_,_,rfl⟩
theorem signed_v(s:Bool)(m k:Nat):signed s m k=if s then -((m*2 ^ k:Nat):Int) else ((m*2 ^ k:Nat):Int):=by
 unfold signed;rw[Nat.shiftLeft_eq]
theorem parts(a:Int)(h0:0<=a)(h1:a<9223372036854775808)(hf:finB a=true) :
  ∃m P:Nat,a=((P*4503599627370496+m:Nat):Int)/\m<9007199254740992/\(4503599627370496<=m\/P=0)/\P<=2045/\keyI a=((m*2 ^ P:Nat):Int):=by
 obtain⟨s,m,p,e⟩:=fin_read a hf
 obtain⟨q1,q2,q3,q4,q5⟩:=read_number (by omega) e
 have hs:s=false:=by
  cases s
  ·rfl
  ·simp only[if_true] at q5;omega
 subst hs
 refine⟨m,(p+1074).toNat,?_,q1,by omega,by omega,?_⟩
 ·simp only[z13z,if_false] at q5;omega
 ·unfold keyI
  rw[e]
  simp only[key,signed_v,z13z,if_false]
theorem parts_mk(m P:Nat)(h1:m<9007199254740992)(h2:4503599627370496<=m\/P=0)(h3:P<=2045) :
  finB ((P*4503599627370496+m:Nat):Int)=true/\((P*4503599627370496+m:Nat):Int)<9223372036854775808/\keyI ((P*4503599627370496+m:Nat):Int)=((m*2 ^ P:Nat):Int):=by
 have hb:P*4503599627370496+m<9218868437227405312:=by omega
 have hf:finB ((P*4503599627370496+m:Nat):Int)=true:=by
  simp only[finB,decide_eq_true_eq];omega
 refine⟨hf,by omega,?_⟩
 obtain⟨m',P',e,e1,e2,e3,e4⟩:=parts _ (by omega) (by omega) hf
 have hh:P=P'/\m=m':=by
  have e':P*4503599627370496+m=P'*4503599627370496+m':=by omega
  omega
 rw[e4,hh.1,hh.2]
theorem parts_inj{m P m' P':Nat}(h1:m<9007199254740992)(h1':m'<9007199254740992)(h2:4503599627370496<=m\/P=0)(h2':4503599627370496<=m'\/P'=0)(h:m*2 ^ P=m'*2 ^ P'):m=m'/\P=P':=by
 have go:∀ {m P m' P':Nat},m<9007199254740992->(4503599627370496<=m'\/P'=0)->m*2 ^ P=m'*2 ^ P'->¬P<P':=by
  intro m P m' P' k1 k2 k hlt
  have e:2 ^ P'=2 ^ (P'-P)*2 ^ P:=by rw[<- z0z];congr 1;omega
  rw[e,<- z1z] at k
  have k3:m=m'*2 ^ (P'-P):=z4z (z2z P) k
  have k4:2 ^ 1<=2 ^ (P'-P):=z9z (by omega) (by omega)
  have k5:m'*2<=m'*2 ^ (P'-P):=Nat.mul_le_mul_left _ (by omega)
  omega
 have a:=go h1 h2' h
 have b:=go h1' h2 h.symm
 have e:P=P':=by omega
 subst e
 exact⟨z4z (z2z P) h,rfl⟩
theorem key_inj(a b:Int)(a0:0<=a)(a1:a<9223372036854775808)(b0:0<=b)(b1:b<9223372036854775808)(fa:finB a=true)(fb:finB b=true)(h:keyI a=keyI b):a=b:=by
 obtain⟨m,P,e,h1,h2,h3,h4⟩:=parts a a0 a1 fa
 obtain⟨m',P',e',h1',h2',h3',h4'⟩:=parts b b0 b1 fb
 rw[h4,h4'] at h
 have h':m*2 ^ P=m'*2 ^ P':=by exact_mod_cast h
 obtain⟨rfl,rfl⟩:=parts_inj h1 h1' h2 h2' h'
 omega
def ValOf(a:Int)(N:Nat)(low:Int):Prop:=
 0<=a/\a<9223372036854775808/\finB a=true/\∃V:Nat,keyI a=V/\V*2 ^ (-(low+1074)).toNat=N*2 ^ (low+1074).toNat
theorem val_unique{a b:Int}{N:Nat}{low:Int}(ha:ValOf a N low)(hb:ValOf b N low):a=b:=by
 obtain⟨a0,a1,fa,V,ka,va⟩:=ha
 obtain⟨b0,b1,fb,U,kb,vb⟩:=hb
 have:V=U:=z4z (z2z _) (va.trans vb.symm)
 exact key_inj a b a0 a1 b0 b1 fa fb (by rw[ka,kb,this])
theorem val_shift{a:Int}{N:Nat}{low:Int}(k:Nat):ValOf a (N*2 ^ k) low↔ValOf a N (low+k):=by
 unfold ValOf
 constructor
 ·rintro⟨a0,a1,fa,V,ka,va⟩
  refine⟨a0,a1,fa,V,ka,?_⟩
  have e1:(-(low+1074)).toNat+(low+k+1074).toNat=(-(low+k+1074)).toNat+(k+(low+1074).toNat):=by omega
  apply z4z (z2z ((-(low+1074)).toNat))
  have:=congrArg (· * 2 ^ (-(low+k+1074)).toNat) va
  calc V*2 ^ (-(low + ↑k+1074)).toNat*2 ^ (-(low+1074)).toNat=V*2 ^ (-(low+1074)).toNat*2 ^ (-(low+k+1074)).toNat:=by rw[z1z,z1z,z5z (2 ^ _)]
   _=N*2 ^ k*2 ^ (low+1074).toNat*2 ^ (-(low+k+1074)).toNat:=this
   _=N*2 ^ (low + ↑k+1074).toNat*2 ^ (-(low+1074)).toNat:=by
    rw[z1z,z1z,z1z,<- z0z,<- z0z,<- z0z]
    congr 2;omega
 ·rintro⟨a0,a1,fa,V,ka,va⟩
  refine⟨a0,a1,fa,V,ka,?_⟩
  apply z4z (z2z ((-(low+k+1074)).toNat))
  have:=congrArg (· * 2 ^ (-(low+1074)).toNat) va
  calc V*2 ^ (-(low+1074)).toNat*2 ^ (-(low + ↑k+1074)).toNat=V*2 ^ (-(low+k+1074)).toNat*2 ^ (-(low+1074)).toNat:=by rw[z1z,z1z,z5z (2 ^ _)]
   _=N*2 ^ (low+k+1074).toNat*2 ^ (-(low+1074)).toNat:=this
   _=N*2 ^ k*2 ^ (low+1074).toNat*2 ^ (-(low + ↑k+1074)).toNat:=by
    rw[z1z,z1z,z1z,<- z0z,<- z0z,<- z0z]
    congr 2;omega
theorem high_le{n:Nat}(hn:n≠0):2 ^ n.log2<=n/\n<2 ^ (n.log2+1):=⟨Nat.log2_self_le hn,Nat.lt_log2_self⟩
theorem val_make(n:Nat)(low:Int)(hn:n≠0)(h53:n.log2<=52)(hlow:-1074<=low)(hhigh:low+n.log2<=1023) :
  (low+n.log2 < -1022->ValOf ((n*2 ^ (low+1074).toNat:Nat):Int) n low) /\
  (-1022<=low+n.log2->4503599627370496<=n*2 ^ (52-n.log2)/\n*2 ^ (52-n.log2)<9007199254740992 /\
   ((-1074<=low+n.log2-52)->ValOf (((low+n.log2+1023).toNat*4503599627370496+(n*2 ^ (52-n.log2)-4503599627370496):Nat):Int) n low)):=by
 obtain⟨l1,l2⟩:=high_le hn
 have z:(-(low+1074)).toNat=0:=by omega
 constructor
 ·intro h
  have b:n*2 ^ (low+1074).toNat<4503599627370496:=by
   have b1:n*2 ^ (low+1074).toNat<2 ^ (n.log2+1)*2 ^ (low+1074).toNat:=z14z l2 (z2z _)
   rw[<- z0z] at b1
   have b2:2 ^ (n.log2+1+(low+1074).toNat)<=2 ^ 52:=z9z (by omega) (by omega)
   omega
  obtain⟨f,g,k⟩:=parts_mk (n*2 ^ (low+1074).toNat) 0 (by omega) (Or.inr rfl) (by omega)
  rw[z15z,z7z] at f g k
  exact⟨by omega,g,f,_,k,by rw[z,z10z,z8z,z8z]⟩
 ·intro h
  have b1:2 ^ n.log2*2 ^ (52-n.log2)<=n*2 ^ (52-n.log2):=z16z _ l1
  have b2:n*2 ^ (52-n.log2)<2 ^ (n.log2+1)*2 ^ (52-n.log2):=z14z l2 (z2z _)
  rw[<- z0z,show n.log2+(52-n.log2)=52 by omega] at b1
  rw[<- z0z,show n.log2+1+(52-n.log2)=53 by omega] at b2
  have p52:(2:Nat) ^ 52=4503599627370496:=by decide
  have p53:(2:Nat) ^ 53=9007199254740992:=by decide
  rw[p52] at b1
  rw[p53] at b2
  have c1:=b1
  have c2:=b2
  refine⟨c1,c2,λhl=>?_⟩
  obtain⟨f,g,k⟩:=parts_mk (n*2 ^ (52-n.log2)) (low+n.log2+1022).toNat c2 (Or.inl c1) (by omega)
  have e:(low+n.log2+1023).toNat*4503599627370496+(n*2 ^ (52-n.log2)-4503599627370496)=(low+n.log2+1022).toNat*4503599627370496+n*2 ^ (52-n.log2):=by omega
  rw[e]
  refine⟨by omega,g,f,_,k,?_⟩
  have e3:52-n.log2+(low+n.log2+1022).toNat=(low+1074).toNat:=by omega
  rw[z,z10z,z8z,z1z,<- z0z,e3]
theorem val_none(n:Nat)(low:Int)(hn:n%2=1)(h:52<n.log2\/low < -1074\/1023<low+n.log2)(a:Int):¬ValOf a n low:=by
 rintro⟨a0,a1,fa,V,ka,va⟩
 obtain⟨m,P,e,h1,h2,h3,h4⟩:=parts a a0 a1 fa
 have hV:V=m*2 ^ P:=by rw[ka] at h4;exact_mod_cast h4
 have hn0:n≠0:=by omega
 obtain⟨l1,l2⟩:=high_le hn0
 subst hV
 by_cases hl:low < -1074
 ·have z:(low+1074).toNat=0:=by omega
  rw[z,z10z,z8z] at va
  have:(2:Nat) ^ (-(low+1074)).toNat=2 ^ ((-(low+1074)).toNat-1)*2:=by rw[<- z6z];congr 1;omega
  rw[this,<- z1z] at va
  omega
 ·have z:(-(low+1074)).toNat=0:=by omega
  rw[z,z10z,z8z] at va
  rcases h with h|h|h
  ·-- an odd number times a power of two: the other one's factor divides
   have hP:P<=(low+1074).toNat:=by
    false_or_by_contra
    rename_i g
    have e2:(2:Nat) ^ P=2 ^ (P-(low+1074).toNat-1)*2*2 ^ (low+1074).toNat:=by rw[<- z6z,<- z0z];congr 1;omega
    rw[e2,<- z1z] at va
    have:=z4z (z2z _) va
    rw[<- z1z] at this
    omega
   have e2:(2:Nat) ^ (low+1074).toNat=2 ^ ((low+1074).toNat-P)*2 ^ P:=by rw[<- z0z];congr 1;omega
   rw[e2,<- z1z] at va
   have e3:=z4z (z2z _) va
   have e4:n*1<=n*2 ^ ((low+1074).toNat-P):=Nat.mul_le_mul_left _ (z2z _)
   have e5:2 ^ 53<=2 ^ n.log2:=z9z (by omega) (by omega)
   have e6:(2:Nat) ^ 53=9007199254740992:=by decide
   omega
  ·omega
  ·have p53:(2:Nat) ^ 53=9007199254740992:=by decide
   have b0:m<2 ^ 53:=by omega
   have b1:m*2 ^ P<2 ^ 53*2 ^ P:=z14z b0 (z2z _)
   have b2:2 ^ n.log2*2 ^ (low+1074).toNat<=n*2 ^ (low+1074).toNat:=z16z _ l1
   rw[<- z0z] at b1 b2
   have b3:2 ^ (53+P)<=2 ^ (n.log2+(low+1074).toNat):=z9z (by omega) (by omega)
   omega
def dig(d:Nat):UInt8:=UInt8.ofNat (48+d)
theorem dig_toNat(d:Nat)(h:d<10):(dig d).toNat=48+d:=by
 unfold dig
 rw[UInt8.toNat_ofNat']
 omega
def decL(n:Nat):List UInt8:=if n<10 then [dig n] else decL (n/10)++[dig (n%10)]
 termination_by n
 decreasing_by omega
theorem decL_small{n:Nat}(h:n<10):decL n=[dig n]:=by rw[decL,if_pos h]
theorem decL_step{n:Nat}(h:¬n<10):decL n=decL (n/10)++[dig (n%10)]:=by rw[decL,if_neg h]
def valD(l:List UInt8):Nat:=l.foldl (λa c=>10*a+(c.toNat-48)) 0
theorem valD_snoc(l:List UInt8)(c:UInt8):valD (l++[c])=10*valD l+(c.toNat-48):=by simp[valD,List.foldl_append]
theorem valD_dec(n:Nat):valD (decL n)=n:=by
 induction n using z11z with
 | _ n ih=>
  by_cases h:n<10
  ·rw[decL_small h]
   simp only[valD,z19z,List.foldl_nil,dig_toNat n h]
   omega
  ·rw[decL_step h,valD_snoc,ih _ (by omega),dig_toNat _ (by omega)]
   omega
def goodD(l:List UInt8):Prop:=l≠[]/\(∀c ∈ l,48<=c.toNat/\c.toNat<=57)/\(l.head? = some (dig 0)->l.length=1)
theorem decL_digits(n:Nat):∀c ∈ decL n,48<=c.toNat/\c.toNat<=57:=by
 induction n using z11z with
 | _ n ih=>
  intro c hc
  by_cases h:n<10
  ·rw[decL_small h] at hc
   simp only[List.mem_singleton] at hc
   rw[hc,dig_toNat n h];omega
  ·rw[decL_step h,List.mem_append] at hc
   rcases hc with hc|hc
   ·exact ih _ (by omega) c hc
   ·simp only[List.mem_singleton] at hc
    rw[hc,dig_toNat _ (by omega)];omega
theorem decL_ne(n:Nat):decL n≠[]:=by
 by_cases h:n<10
 ·rw[decL_small h];simp
 ·rw[decL_step h];simp
theorem decL_head(n:Nat)(hn:n≠0):(decL n).head? ≠ some (dig 0):=by
 induction n using z11z with
 | _ n ih=>
  by_cases h:n<10
  ·rw[decL_small h]
   simp only[z12z,ne_eq,Option.some.injEq]
   intro e
   have:=congrArg UInt8.toNat e
   rw[dig_toNat n h,dig_toNat 0 (by omega)] at this
   omega
  ·have g:=ih (n/10) (by omega) (by omega)
   rw[decL_step h]
   cases e:decL (n/10) with
   | nil=>exact absurd e (decL_ne _)
   | cons a l=>rw[e] at g;simpa using g
theorem decL_good(n:Nat):goodD (decL n):=by
 refine⟨decL_ne n,decL_digits n,λh=>?_⟩
 by_cases hn:n=0
 ·subst hn;rw[decL_small (by omega)];rfl
 ·exact absurd h (decL_head n hn)
theorem decL_length(n k:Nat)(h:n<10 ^ k)(hk:0<k):(decL n).length<=k:=by
 induction k generalizing n with
 | zero=>omega
 | succ k ih=>
  by_cases hs:n<10
  ·rw[decL_small hs];simp
  ·rw[decL_step hs,z20z]
   have hk':0<k:=by
    rcases Nat.eq_zero_or_pos k with e|e
    ·subst e;simp at h;omega
    ·exact e
   have:=ih (n/10) (by rw[z6z] at h;omega) hk'
   simp only[z3z,z21z]
   omega
theorem foldD(l:List UInt8)(a:Nat):l.foldl (λa c=>10*a+(c.toNat-48)) a=a*10 ^ l.length+valD l:=by
 induction l generalizing a with
 | nil=>simp[valD]
 | cons c l ih=>
  have e:valD (c::l)=l.foldl (λa c=>10*a+(c.toNat-48)) (10*0+(c.toNat-48)):=rfl
  rw[z19z,ih,e,ih,z3z,z6z,z17z,z18z,z7z,Nat.add_assoc]
  congr 1
  rw[z5z 10 a,z1z,z5z 10]
theorem valD_cons(c:UInt8)(l:List UInt8):valD (c::l)=(c.toNat-48)*10 ^ l.length+valD l:=by
 have e:valD (c::l)=l.foldl (λa c=>10*a+(c.toNat-48)) (10*0+(c.toNat-48)):=rfl
 rw[e,foldD,z18z,z7z]
theorem valD_le(l:List UInt8)(h:∀c ∈ l,48<=c.toNat/\c.toNat<=57):valD l<10 ^ l.length:=by
 induction l with
 | nil=>simp[valD]
 | cons c l ih=>
  rw[valD_cons,z3z,z6z]
  have h1:=h c (by simp)
  have h2:=ih (λx hx=>h x (by simp[hx]))
  have h3:(c.toNat-48)*10 ^ l.length<=9*10 ^ l.length:=z16z _ (by omega)
  omega
theorem dig_of(c:UInt8)(h:48<=c.toNat/\c.toNat<=57):dig (c.toNat-48)=c:=by
 apply UInt8.toNat_inj.1
 rw[dig_toNat _ (by omega)]
 omega
theorem dec_val(l:List UInt8)(h:goodD l):decL (valD l)=l:=by
 generalize hk:l.length=k
 induction k using z11z generalizing l with
 | _ k ih=>
  obtain⟨h1,h2,h3⟩:=h
  have e:=List.dropLast_concat_getLast h1
  have hc:=h2 _ (List.getLast_mem h1)
  generalize l.getLast h1=c at e hc
  generalize hl':l.dropLast=l' at e
  subst e
  by_cases hn:l'=[]
  ·subst hn
   have e1:valD ([]++[c])=c.toNat-48:=by simp[valD]
   rw[e1,decL_small (by omega),dig_of c hc]
   rfl
  ·have hh:(l'++[c]).head? = l'.head?:=by
    cases l' with
    | nil=>exact absurd rfl hn
    | cons a t=>rfl
   have hne:l'.head? ≠ some (dig 0):=by
    intro g
    have:=h3 (by rw[hh];exact g)
    have:0<l'.length:=List.length_pos_iff.2 hn
    simp only[z20z,z3z,z21z] at *
    omega
   have g':goodD l':=⟨hn,λx hx=>h2 x (by simp[hx]),λg=>absurd g hne⟩
   have i':=ih l'.length (by rw[<- hk];simp) l' g' rfl
   have hv:valD l'≠0:=by
    intro z
    rw[z,decL_small (by omega)] at i'
    rw[<- i'] at hne
    exact hne rfl
   rw[valD_snoc,decL_step (by omega)]
   have d1:(10*valD l'+(c.toNat-48))/10=valD l':=by omega
   have d2:(10*valD l'+(c.toNat-48))%10=c.toNat-48:=by omega
   rw[d1,d2,i',dig_of c hc]
def hexd(d:Nat):UInt8:=if d<10 then UInt8.ofNat (48+d) else UInt8.ofNat (87+d)
def hexV(c:UInt8):Int:=if 48<=c.toNat/\c.toNat<=57 then c.toNat-48 else if 97<=c.toNat/\c.toNat<=102 then c.toNat-87 else -1
theorem hexd_toNat(d:Nat)(h:d<16):(hexd d).toNat=if d<10 then 48+d else 87+d:=by
 unfold hexd
 split
 ·rw[UInt8.toNat_ofNat'];omega
 ·rw[UInt8.toNat_ofNat'];omega
theorem hexV_hexd(d:Nat)(h:d<16):hexV (hexd d)=d:=by
 unfold hexV
 rw[hexd_toNat d h]
 by_cases g:d<10
 ·rw[if_pos g,if_pos (by omega)];omega
 ·rw[if_neg g,if_neg (by omega),if_pos (by omega)];omega
theorem hexV_range(c:UInt8):-1<=hexV c/\hexV c<16:=by unfold hexV;split <;> (try split) <;> omega
def valH(l:List UInt8):Nat:=l.foldl (λa c=>16*a+(hexV c).toNat) 0
theorem foldH(l:List UInt8)(a:Nat):l.foldl (λa c=>16*a+(hexV c).toNat) a=a*16 ^ l.length+valH l:=by
 induction l generalizing a with
 | nil=>simp[valH]
 | cons c l ih=>
  have e:valH (c::l)=l.foldl (λa c=>16*a+(hexV c).toNat) (16*0+(hexV c).toNat):=rfl
  rw[z19z,ih,e,ih,z3z,z6z,z17z,z18z,z7z,Nat.add_assoc]
  congr 1
  rw[z5z 16 a,z1z,z5z 16]
theorem valH_cons(c:UInt8)(l:List UInt8):valH (c::l)=(hexV c).toNat*16 ^ l.length+valH l:=by
 have e:valH (c::l)=l.foldl (λa c=>16*a+(hexV c).toNat) (16*0+(hexV c).toNat):=rfl
 rw[e,foldH,z18z,z7z]
theorem valH_append(l m:List UInt8):valH (l++m)=valH l*16 ^ m.length+valH m:=by
 unfold valH
 rw[List.foldl_append,foldH]
 rfl
theorem valH_snoc(l:List UInt8)(c:UInt8):valH (l++[c])=16*valH l+(hexV c).toNat:=by
 rw[valH_append]
 simp[valH]
 omega
def fracL:Nat->Nat->List UInt8
 | 0,_=>[]
 | k+1,f=>if f=0 then [] else hexd (f/281474976710656)::fracL k (f%281474976710656*16)
theorem pow16(k:Nat):16 ^ k=2 ^ (4*k):=by rw[Nat.pow_mul]
theorem fracL_val(k f:Nat)(hk:k<=13)(h1:f<4503599627370496)(h2:f%2 ^ (52-4*k)=0) :
  (fracL k f).length<=k/\valH (fracL k f)*2 ^ (52-4*(fracL k f).length)=f/\(∀c ∈ fracL k f,0<=hexV c):=by
 induction k generalizing f with
 | zero=>
  have:f=0:=by
   have e:(2:Nat) ^ (52-4*0)=4503599627370496:=by decide
   rw[e] at h2;omega
  subst this
  exact⟨Nat.le_refl _,by simp[fracL,valH],by simp[fracL]⟩
 | succ k ih=>
  unfold fracL
  by_cases hf:f=0
  ·rw[if_pos hf]
   subst hf
   exact⟨by simp,by simp[valH],by simp⟩
  ·rw[if_neg hf]
   have hd:f/281474976710656<16:=by omega
   have hr:f%281474976710656*16<4503599627370496:=by omega
   have hm:f%281474976710656*16%2 ^ (52-4*k)=0:=by
    have e1:(2:Nat) ^ (52-4*k)=2 ^ (52-4*(k+1))*16:=by
     rw[show (16:Nat)=2 ^ 4 by decide,<- z0z];congr 1;omega
    rw[e1,Nat.mul_mod_mul_right]
    have e2:(281474976710656:Nat)=2 ^ (52-4*(k+1))*2 ^ (4*k):=by
     rw[<- z0z,show 52-4*(k+1)+4*k=48 by omega]
    rw[e2,Nat.mod_mul_right_mod,h2,z15z]
   obtain⟨i1,i2,i3⟩:=ih (f%281474976710656*16) (by omega) hr hm
   generalize fracL k (f%281474976710656*16)=l at i1 i2 i3
   refine⟨by simp only[z3z];omega,?_,?_⟩
   ·rw[valH_cons,hexV_hexd _ hd,Int.toNat_natCast,z3z,z17z]
    have e3:16 ^ l.length*2 ^ (52-4*(l.length+1))=281474976710656:=by
     rw[pow16,<- z0z,show 4*l.length+(52-4*(l.length+1))=48 by omega]
    have e4:(2:Nat) ^ (52-4*l.length)=2 ^ (52-4*(l.length+1))*16:=by
     rw[show (16:Nat)=2 ^ 4 by decide,<- z0z];congr 1;omega
    rw[e4,<- z1z] at i2
    have e5:valH l*2 ^ (52-4*(l.length+1))=f%281474976710656:=z4z (by decide:0<16) i2
    rw[e5,z1z,e3]
    omega
   ·intro c hc
    rcases List.mem_cons.1 hc with rfl|hc
    ·rw[hexV_hexd _ hd];omega
    ·exact i3 c hc
theorem one_frac(f:Nat)(h1:f<4503599627370496) :
  (fracL 13 f).length<=13/\valH (hexd 1::fracL 13 f)*2 ^ (52-4*(fracL 13 f).length)=4503599627370496+f:=by
 have e0:(2:Nat) ^ (52-4*13)=1:=by decide
 obtain⟨i1,i2,-⟩:=fracL_val 13 f (Nat.le_refl _) h1 (by rw[e0];omega)
 refine⟨i1,?_⟩
 rw[valH_cons,hexV_hexd 1 (by omega),Int.toNat_natCast,z17z,i2,Nat.one_mul,pow16,<- z0z,show 4*(fracL 13 f).length+(52-4*(fracL 13 f).length)=52 by omega]
def powOf(a:Nat):Int:=if a<4503599627370496 then (a.log2:Int)-1074 else (a/4503599627370496:Nat)-1023
def fracOf(a:Nat):Nat:=if a<4503599627370496 then a*2 ^ (52-a.log2)-4503599627370496 else a%4503599627370496
theorem fracOf_spec(a:Nat)(h0:a≠0)(h1:a<9218868437227405312) :
  fracOf a<4503599627370496/\ValOf (a:Int) (4503599627370496+fracOf a) (powOf a-52)/\-1074<=powOf a/\powOf a<=1023:=by
 unfold fracOf powOf
 by_cases hs:a<4503599627370496
 ·rw[if_pos hs,if_pos hs]
  obtain⟨l1,l2⟩:=high_le h0
  have hl:a.log2<=51:=by
   false_or_by_contra
   rename_i g
   have:2 ^ 52<=2 ^ a.log2:=z9z (by omega) (by omega)
   have p52:(2:Nat) ^ 52=4503599627370496:=by decide
   omega
  have b1:2 ^ a.log2*2 ^ (52-a.log2)<=a*2 ^ (52-a.log2):=z16z _ l1
  have b2:a*2 ^ (52-a.log2)<2 ^ (a.log2+1)*2 ^ (52-a.log2):=z14z l2 (z2z _)
  rw[<- z0z,show a.log2+(52-a.log2)=52 by omega] at b1
  rw[<- z0z,show a.log2+1+(52-a.log2)=53 by omega] at b2
  have p52:(2:Nat) ^ 52=4503599627370496:=by decide
  have p53:(2:Nat) ^ 53=9007199254740992:=by decide
  rw[p52] at b1
  rw[p53] at b2
  refine⟨by omega,?_,by omega,by omega⟩
  have e:4503599627370496+(a*2 ^ (52-a.log2)-4503599627370496)=a*2 ^ (52-a.log2):=by omega
  rw[e]
  have sh:=(val_shift (a:=(a:Int)) (N:=a) (low:=(a.log2:Int)-1074-52) (52-a.log2)).2
  refine sh ?_
  have el:(a.log2:Int)-1074-52+((52-a.log2:Nat):Int) = -1074:=by omega
  rw[el]
  obtain⟨f,g,k⟩:=parts_mk a 0 (by omega) (Or.inr rfl) (by omega)
  rw[z15z,z7z] at f g k
  exact⟨by omega,g,f,_,k,by simp⟩
 ·rw[if_neg hs,if_neg hs]
  have hr:a%4503599627370496<4503599627370496:=Nat.mod_lt _ (by decide)
  refine⟨hr,?_,by omega,by omega⟩
  obtain⟨f,g,k⟩:=parts_mk (4503599627370496+a%4503599627370496) (a/4503599627370496-1) (by omega) (Or.inl (by omega)) (by omega)
  have e:(a/4503599627370496-1)*4503599627370496+(4503599627370496+a%4503599627370496)=a:=by omega
  rw[e] at f g k
  refine⟨by omega,g,f,_,k,?_⟩
  have z:(-(((a/4503599627370496:Nat):Int)-1023-52+1074)).toNat=0:=by omega
  have y:(((a/4503599627370496:Nat):Int)-1023-52+1074).toNat=a/4503599627370496-1:=by omega
  rw[z,y,z10z,z8z]
theorem text_val(a:Nat)(h0:a≠0)(h1:a<9218868437227405312) :
  ValOf (a:Int) (valH (hexd 1::fracL 13 (fracOf a))) (powOf a-4*(fracL 13 (fracOf a)).length):=by
 obtain⟨f1,f2,f3,f4⟩:=fracOf_spec a h0 h1
 obtain⟨g1,g2⟩:=one_frac (fracOf a) f1
 rw[<- g2] at f2
 have sh:=(val_shift (a:=(a:Int)) (N:=valH (hexd 1::fracL 13 (fracOf a))) (low:=powOf a-52) (52-4*(fracL 13 (fracOf a)).length)).1 f2
 have el:powOf a-52+((52-4*(fracL 13 (fracOf a)).length:Nat):Int)=powOf a-4*(fracL 13 (fracOf a)).length:=by omega
 rw[el] at sh
 exact sh
def twos(n:Nat):Nat:=if n=0 then 0 else if n%2=0 then twos (n/2)+1 else 0
 termination_by n
 decreasing_by omega
def oddN(n:Nat):Nat:=if n=0 then 0 else if n%2=0 then oddN (n/2) else n
 termination_by n
 decreasing_by omega
theorem odd_twos(n:Nat)(h:n≠0):oddN n%2=1/\n=oddN n*2 ^ twos n:=by
 induction n using z11z with
 | _ n ih=>
  rw[oddN,twos]
  rw[if_neg h,if_neg h]
  by_cases g:n%2=0
  ·rw[if_pos g,if_pos g]
   obtain⟨i1,i2⟩:=ih (n/2) (by omega) (by omega)
   refine⟨i1,?_⟩
   rw[z6z,<- z1z,<- i2]
   omega
  ·rw[if_neg g,if_neg g]
   exact⟨by omega,by simp⟩
def exactP(N:Nat)(low:Int):Option Int:=
 if N=0 then some 0
 else if 52<(oddN N).log2\/low+twos N < -1074\/1023<low+twos N+(oddN N).log2 then none
 else if low+twos N+(oddN N).log2 < -1022 then some ((oddN N*2 ^ (low+twos N+1074).toNat:Nat):Int)
 else some (((low+twos N+(oddN N).log2+1023).toNat*4503599627370496+(oddN N*2 ^ (52-(oddN N).log2)-4503599627370496):Nat):Int)
theorem val_zero(a:Int)(low:Int):ValOf a 0 low↔a=0:=by
 constructor
 ·rintro⟨a0,a1,fa,V,ka,va⟩
  rw[z15z] at va
  have hV:V=0:=by
   rcases Nat.mul_eq_zero.1 va with h|h
   ·exact h
   ·exact absurd h (Nat.ne_of_gt (z2z _))
  subst hV
  obtain⟨f,g,k⟩:=parts_mk 0 0 (by omega) (Or.inr rfl) (by omega)
  refine key_inj a 0 a0 a1 (by omega) (by omega) fa (by decide) ?_
  rw[ka]
  have k':keyI ((0*4503599627370496+0:Nat):Int)=0:=by rw[k];simp
  exact k'.symm
 ·rintro rfl
  obtain⟨f,g,k⟩:=parts_mk 0 0 (by omega) (Or.inr rfl) (by omega)
  exact⟨by omega,by omega,by decide,0,k.trans (by simp),by simp⟩
theorem exact_iff(N:Nat)(low:Int)(a:Int):exactP N low=some a↔ValOf a N low:=by
 unfold exactP
 by_cases h0:N=0
 ·subst h0
  rw[if_pos rfl,val_zero]
  simp only[Option.some.injEq]
  exact eq_comm
 ·rw[if_neg h0]
  obtain⟨o1,o2⟩:=odd_twos N h0
  have sh:ValOf a N low↔ValOf a (oddN N) (low+twos N):=by
   have:=val_shift (a:=a) (N:=oddN N) (low:=low) (twos N)
   rw[<- o2] at this
   exact this
  rw[sh]
  have on:oddN N≠0:=by omega
  by_cases h1:52<(oddN N).log2\/low+twos N < -1074\/1023<low+twos N+(oddN N).log2
  ·rw[if_pos h1]
   exact⟨(λh=>by cases h),λh=>absurd h (val_none _ _ o1 h1 a)⟩
  ·rw[if_neg h1]
   obtain⟨m1,m2⟩:=val_make (oddN N) (low+twos N) on (by omega) (by omega) (by omega)
   by_cases h2:low+twos N+(oddN N).log2 < -1022
   ·rw[if_pos h2]
    have v:=m1 h2
    constructor
    ·intro h
     injection h with h
     rw[<- h];exact v
    ·intro h;rw[val_unique v h]
   ·rw[if_neg h2]
    obtain⟨c1,c2,c3⟩:=m2 (by omega)
    have v:=c3 (by omega)
    constructor
    ·intro h
     injection h with h
     rw[<- h];exact v
    ·intro h;rw[val_unique v h]
theorem exact_none(N:Nat)(low:Int):exactP N low=none↔∀a,¬ValOf a N low:=by
 constructor
 ·intro h a ha
  rw[(exact_iff N low a).2 ha] at h
  cases h
 ·intro h
  cases e:exactP N low with
  | none=>rfl
  | some a=>exact absurd ((exact_iff N low a).1 e) (h a)
theorem exact_shift(N:Nat)(low:Int)(k:Nat):exactP (N*2 ^ k) low=exactP N (low+k):=by
 cases e:exactP N (low+k) with
 | some a=>rw[exact_iff];exact(val_shift k).2 ((exact_iff _ _ _).1 e)
 | none=>
  rw[exact_none] at e ⊢
  exact λa h=>e a ((val_shift k).1 h)
theorem exact_text(a:Nat)(h0:a≠0)(h1:a<9218868437227405312) :
  exactP (valH (hexd 1::fracL 13 (fracOf a))) (powOf a-4*(fracL 13 (fracOf a)).length)=some (a:Int):=
 (exact_iff _ _ _).2 (text_val a h0 h1)
theorem exact_range(N:Nat)(low:Int)(a:Int)(h:exactP N low=some a):0<=a/\a<9218868437227405312:=by
 obtain⟨a0,a1,fa,-⟩:=(exact_iff N low a).1 h
 simp only[finB,decide_eq_true_eq] at fa
 omega
def hexB(c:UInt8):Bool:=decide (0<=hexV c)
def digB(c:UInt8):Bool:=decide (48<=c.toNat/\c.toNat<=57)
def intT(i:Int):List UInt8:=if i<0 then 45::decL i.natAbs else decL i.natAbs
def formI(m:Bool)(d:List UInt8):Bool:=!d.isEmpty&&d.all digB && !(d.head? == some 48&&(decide (1<d.length)||m))
def readD(m:Bool)(d:List UInt8):Int × Int:=
 if formI m d=true then
  (if (if m=true then valD d<=9223372036854775808 else valD d<9223372036854775808) then ((if m=true then -(valD d:Int) else valD d),0) else (0,13))
 else (0,20)
def readI(l:List UInt8):Int × Int:=
 if 64<l.length then (0,2) else match l with
 | 45::d=>readD true d
 | d=>readD false d
def readPow(N:Nat)(behind:Nat)(r:List UInt8):Option (Nat × Int):=
 match r with
 | 112::sg::ds=>
  if (sg=43\/sg=45)/\ds≠[]/\ds.length<=5/\ds.all digB=true then some (N,(if sg=45 then -(valD ds:Int) else valD ds)-4*behind) else none
 | _=>none
def readBody(r:List UInt8):Option (Nat × Int):=
 if r.takeWhile hexB=[] then none else
 match r.dropWhile hexB with
 | 46::r1=>if r1.takeWhile hexB=[] then none else readPow (valH (r.takeWhile hexB++r1.takeWhile hexB)) (r1.takeWhile hexB).length (r1.dropWhile hexB)
 | r1=>readPow (valH (r.takeWhile hexB)) 0 r1
def readS(s:Int)(l:List UInt8):Int × Int:=
 match l with
 | 48::120::r=>match readBody r with
  | none=>(0,20)
  | some (N,low)=>match exactP N low with
   | none=>(0,21)
   | some a=>(s+a,0)
 | _=>(0,20)
def nanT:List UInt8:=[110,97,110]
def infT:List UInt8:=[105,110,102]
def readF(l:List UInt8):Int × Int:=
 if 64<l.length then (0,2) else if l=nanT then (9221120237041090560,0) else if l=infT then (9218868437227405312,0) else if l=45::infT then (18442240474082181120,0) else match l with
 | 45::b=>readS 9223372036854775808 b
 | b=>readS 0 b
def posT(a:Nat):List UInt8:=
 if a=9218868437227405312 then infT else if a=0 then [48,120,48,112,43,48]
 else [48,120,49]++(if fracOf a=0 then [] else 46::fracL 13 (fracOf a))++[112]++(if powOf a<0 then [45] else [43])++decL (powOf a).natAbs
def fltT(u:Int):List UInt8:=if nanB u=true then nanT else if 9223372036854775808<=u then 45::posT (u-9223372036854775808).toNat else posT u.toNat
theorem takeWhile_all{p:UInt8->Bool}{l r:List UInt8}(h:∀c ∈ l,p c=true)(hr:∀c,r.head? = some c->p c=false):(l++r).takeWhile p=l/\(l++r).dropWhile p=r:=by
 induction l with
 | nil=>
  cases r with
  | nil=>exact⟨rfl,rfl⟩
  | cons c r=>
   have:=hr c rfl
   exact⟨by simp[this],by simp[this]⟩
 | cons c l ih=>
  have hc:=h c (by simp)
  obtain⟨i1,i2⟩:=ih (λx hx=>h x (by simp[hx]))
  exact⟨by simp[hc,i1],by simp[hc,i2]⟩
theorem readPow_ok(N behind:Nat)(sg:UInt8)(ds:List UInt8)(h1:sg=43\/sg=45)(h2:ds≠[])(h3:ds.length<=5)(h4:ds.all digB=true) :
  readPow N behind (112::sg::ds)=some (N,(if sg=45 then -(valD ds:Int) else valD ds)-4*behind):=by
 unfold readPow
 exact if_pos ⟨h1,h2,h3,h4⟩
theorem readBody_plain(ah:List UInt8)(sg:UInt8)(ds:List UInt8)(ha:∀c ∈ ah,hexB c=true)(hn:ah≠[])(h1:sg=43\/sg=45)(h2:ds≠[])(h3:ds.length<=5)(h4:ds.all digB=true) :
  readBody (ah++112::sg::ds)=some (valH ah,(if sg=45 then -(valD ds:Int) else valD ds)):=by
 obtain⟨t1,t2⟩:=takeWhile_all (r:=112::sg::ds) ha (λc hc=>by
  simp only[z12z,Option.some.injEq] at hc
  subst hc;decide)
 unfold readBody
 rw[t1,t2,if_neg hn]
 have:=readPow_ok (valH ah) 0 sg ds h1 h2 h3 h4
 simpa using this
theorem readBody_point(ah bh:List UInt8)(sg:UInt8)(ds:List UInt8)(ha:∀c ∈ ah,hexB c=true)(hn:ah≠[])(hb:∀c ∈ bh,hexB c=true)(hbn:bh≠[])(h1:sg=43\/sg=45)(h2:ds≠[])(h3:ds.length<=5)(h4:ds.all digB=true) :
  readBody (ah++46::(bh++112::sg::ds))=some (valH (ah++bh),(if sg=45 then -(valD ds:Int) else valD ds)-4*bh.length):=by
 obtain⟨t1,t2⟩:=takeWhile_all (r:=46::(bh++112::sg::ds)) ha (λc hc=>by
  simp only[z12z,Option.some.injEq] at hc
  subst hc;decide)
 obtain⟨s1,s2⟩:=takeWhile_all (r:=112::sg::ds) hb (λc hc=>by
  simp only[z12z,Option.some.injEq] at hc
  subst hc;decide)
 unfold readBody
 rw[t1,t2,if_neg hn]
 simp only[s1,s2]
 rw[if_neg hbn]
 exact readPow_ok _ _ sg ds h1 h2 h3 h4
theorem dec_all(n:Nat):(decL n).all digB=true:=by
 rw[List.all_eq_true]
 intro c hc
 exact decide_eq_true (decL_digits n c hc)
theorem pow_len(a:Nat)(h0:a≠0)(h1:a<9218868437227405312):(decL (powOf a).natAbs).length<=4:=by
 obtain⟨-,-,f3,f4⟩:=fracOf_spec a h0 h1
 exact decL_length _ 4 (by omega) (by omega)
theorem fracL_hex(f:Nat)(h1:f<4503599627370496):∀c ∈ fracL 13 f,hexB c=true:=by
 have e0:(2:Nat) ^ (52-4*13)=1:=by decide
 obtain⟨-,-,i3⟩:=fracL_val 13 f (Nat.le_refl _) h1 (by rw[e0];omega)
 exact λc hc=>decide_eq_true (i3 c hc)
theorem fracL_ne(f:Nat)(h:f≠0):fracL 13 f≠[]:=by unfold fracL;rw[if_neg h];simp
theorem readS_pos(s:Int)(a:Nat)(h1:a<9218868437227405312):readS s (posT a)=(s+a,0):=by
 unfold posT
 rw[if_neg (by omega)]
 by_cases h0:a=0
 ·subst h0
  rw[if_pos rfl]
  have e:readBody [48,112,43,48]=some (0,0):=by decide
  unfold readS
  simp only[e]
  have:exactP 0 0=some 0:=by unfold exactP;rw[if_pos rfl]
  rw[this];rfl
 ·rw[if_neg h0]
  obtain⟨f1,-,-,-⟩:=fracOf_spec a h0 h1
  have hd:=dec_all (powOf a).natAbs
  have hl:=pow_len a h0 h1
  have hne:=decL_ne (powOf a).natAbs
  have ex:=exact_text a h0 h1
  have pw:(if (if powOf a<0 then (45:UInt8) else 43)=45 then -(valD (decL (powOf a).natAbs):Int) else valD (decL (powOf a).natAbs))=powOf a:=by
   rw[valD_dec]
   by_cases g:powOf a<0
   ·rw[if_pos g,if_pos rfl];omega
   ·rw[if_neg g,if_neg (by decide)];omega
  have sgn:(if powOf a<0 then (45:UInt8) else 43)=43\/(if powOf a<0 then (45:UInt8) else 43)=45:=by
   by_cases g:powOf a<0
   ·rw[if_pos g];exact Or.inr rfl
   ·rw[if_neg g];exact Or.inl rfl
  have hs:(if powOf a<0 then [(45:UInt8)] else [43])=[if powOf a<0 then 45 else 43]:=by split <;> rfl
  have h49:(49:UInt8)=hexd 1:=by decide
  by_cases hf:fracOf a=0
  ·rw[if_pos hf,hs]
   rw[hf] at ex
   have e0:fracL 13 0=[]:=rfl
   rw[e0] at ex
   have b:=readBody_plain [49] _ _ (by intro c hc;simp at hc;subst hc;decide) (by simp) sgn hne (by omega) hd
   rw[pw] at b
   have et:[48,120,49]++[]++[112]++[if powOf a<0 then (45:UInt8) else 43]++decL (powOf a).natAbs=48::120::([49]++112::(if powOf a<0 then (45:UInt8) else 43)::decL (powOf a).natAbs):=by simp
   rw[et]
   unfold readS
   simp only[b]
   rw[h49]
   have ex':exactP (valH [hexd 1]) (powOf a)=some (a:Int):=by simpa using ex
   rw[ex']
  ·rw[if_neg hf,hs]
   have b:=readBody_point [49] (fracL 13 (fracOf a)) _ _ (by intro c hc;simp at hc;subst hc;decide) (by simp) (fracL_hex _ f1) (fracL_ne _ hf) sgn hne (by omega) hd
   rw[pw] at b
   have et:[48,120,49]++46::fracL 13 (fracOf a)++[112]++[if powOf a<0 then (45:UInt8) else 43]++decL (powOf a).natAbs=48::120::([49]++46::(fracL 13 (fracOf a)++112::(if powOf a<0 then (45:UInt8) else 43)::decL (powOf a).natAbs)):=by simp
   rw[et]
   unfold readS
   simp only[b]
   rw[h49]
   have ex':exactP (valH ([hexd 1]++fracL 13 (fracOf a))) (powOf a-4*(fracL 13 (fracOf a)).length)=some (a:Int):=ex
   rw[ex']
theorem posT_len(a:Nat)(h1:a<=9218868437227405312):(posT a).length<=23:=by
 unfold posT
 by_cases hi:a=9218868437227405312
 ·rw[if_pos hi];decide
 ·rw[if_neg hi]
  by_cases h0:a=0
  ·rw[if_pos h0];decide
  ·rw[if_neg h0]
   have hl:=pow_len a h0 (by omega)
   obtain⟨f1,-,-,-⟩:=fracOf_spec a h0 (by omega)
   obtain⟨g1,-⟩:=one_frac (fracOf a) f1
   have e1:(if fracOf a=0 then [] else (46:UInt8)::fracL 13 (fracOf a)).length<=14:=by
    split
    ·simp
    ·simp only[z3z];omega
   have e2:(if powOf a<0 then [(45:UInt8)] else [43]).length=1:=by split <;> rfl
   simp only[z20z,e2,z3z,z21z]
   omega
theorem posT_head(a:Nat):(posT a).head? = some 105\/(posT a).head? = some 48:=by
 unfold posT
 split
 ·exact Or.inl rfl
 ·split
  ·exact Or.inr rfl
  ·exact Or.inr rfl
theorem readF_back(u:Int)(u0:0<=u)(u1:u<18446744073709551616):readF (fltT u)=(fltW u,0):=by
 unfold fltT fltW
 cases hn:nanB u with
 | true=>rw[if_pos rfl,if_pos rfl];decide
 | false=>
  simp only[z13z,if_false]
  have hm:u%9223372036854775808<=9218868437227405312:=by
   simp only[nanB,decide_eq_false_iff_not] at hn
   omega
  by_cases hs:9223372036854775808<=u
  ·rw[if_pos hs]
   generalize hA:(u-9223372036854775808).toNat=a
   have ha:a<=9218868437227405312:=by omega
   have hl:=posT_len a ha
   by_cases hi:a=9218868437227405312
   ·have e:u=18442240474082181120:=by omega
    rw[e,hi];decide
   ·have h48:(posT a).head? = some 48:=by
     rcases posT_head a with h|h
     ·exfalso
      unfold posT at h
      rw[if_neg hi] at h
      split at h <;> cases h
     ·exact h
    unfold readF
    rw[if_neg (by simp only[z3z];omega),if_neg (by intro e;injection e with e1 e2;revert e1;decide),if_neg (by intro e;injection e with e1 e2;revert e1;decide),if_neg (by intro e;injection e with e1 e2;rw[e2] at h48;revert h48;decide)]
    show readS 9223372036854775808 (posT a)=_
    rw[readS_pos _ a (by omega)]
    congr 1;omega
  ·rw[if_neg hs]
   generalize hA:u.toNat=a
   have ha:a<=9218868437227405312:=by omega
   have hl:=posT_len a ha
   by_cases hi:a=9218868437227405312
   ·have e:u=9218868437227405312:=by omega
    rw[e,hi];decide
   ·have h48:(posT a).head? = some 48:=by
     rcases posT_head a with h|h
     ·exfalso
      unfold posT at h
      rw[if_neg hi] at h
      split at h <;> cases h
     ·exact h
    have r:=readS_pos 0 a (by omega)
    unfold readF
    rw[if_neg (by omega),if_neg (by intro e;rw[e] at h48;revert h48;decide),if_neg (by intro e;rw[e] at h48;revert h48;decide),if_neg (by intro e;rw[e] at h48;revert h48;decide)]
    cases hp:posT a with
    | nil=>rw[hp] at h48;cases h48
    | cons c l=>
     rw[hp] at h48 r
     simp only[z12z,Option.some.injEq] at h48
     subst h48
     show readS 0 (48::l)=_
     rw[r]
     congr 1;omega
theorem readI_back(i:Int)(i0:-9223372036854775808<=i)(i1:i<9223372036854775808):readI (intT i)=(i,0):=by
 have len:(decL i.natAbs).length<=19:=decL_length _ 19 (by omega) (by omega)
 have form:∀m:Bool,(m=true->i.natAbs≠0)->formI m (decL i.natAbs)=true:=by
  intro m hm
  obtain⟨g1,g2,g3⟩:=decL_good i.natAbs
  unfold formI
  have a1:(decL i.natAbs).isEmpty=false:=by simpa using g1
  have h48:(48:UInt8)=dig 0:=by decide
  rw[a1,dec_all]
  by_cases hz:i.natAbs=0
  ·have mf:m=false:=by
    cases m
    ·rfl
    ·exact absurd hz (hm rfl)
   rw[hz,mf,decL_small (by omega)];decide
  ·have hh:=decL_head i.natAbs hz
   rw[<- h48] at hh
   have:((decL i.natAbs).head? == some 48)=false:=by simpa using hh
   rw[this];rfl
 unfold intT
 by_cases hs:i<0
 ·rw[if_pos hs]
  unfold readI
  rw[if_neg (by simp only[z3z];omega)]
  show readD true (decL i.natAbs)=_
  unfold readD
  rw[if_pos (form true (λ_=>by omega)),valD_dec]
  rw[if_pos (by rw[if_pos rfl];omega),if_pos rfl]
  congr 1;omega
 ·rw[if_neg hs]
  unfold readI
  rw[if_neg (by omega)]
  have hd:=decL_digits i.natAbs
  have key:readD false (decL i.natAbs)=(i,0):=by
   unfold readD
   rw[if_pos (form false (λh=>by cases h)),valD_dec,if_pos (by rw[if_neg (by decide)];omega),if_neg (by decide)]
   congr 1;omega
  cases hp:decL i.natAbs with
  | nil=>exact absurd hp (decL_ne _)
  | cons c l=>
   rw[hp] at hd key
   have hc:=hd c (by simp)
   have hne:c≠45:=by intro e;subst e;revert hc;decide
   split
   ·rename_i d e
    injection e with e1 e2
    exact absurd e1 hne
   ·exact key
theorem form_good{m:Bool}{d:List UInt8}(h:formI m d=true):goodD d/\(m=true->valD d≠0):=by
 unfold formI at h
 rw[Bool.and_eq_true,Bool.and_eq_true] at h
 obtain⟨⟨h1,h2⟩,h3⟩:=h
 have h1':d≠[]:=by simpa using h1
 have h48:(48:UInt8)=dig 0:=by decide
 have hd:∀c ∈ d,48<=c.toNat/\c.toNat<=57:=by
  intro c hc
  exact of_decide_eq_true (List.all_eq_true.1 h2 c hc)
 have g:goodD d:=by
  refine⟨h1',hd,λhh=>?_⟩
  rw[<- h48] at hh
  have e:(d.head? == some 48)=true:=by rw[hh];rfl
  rw[e] at h3
  have:¬1<d.length:=by
   intro hl
   rw[decide_eq_true hl] at h3
   cases h3
  have:0<d.length:=List.length_pos_iff.2 h1'
  omega
 refine⟨g,λhm hz=>?_⟩
 have e:=dec_val d g
 rw[hz,decL_small (by omega)] at e
 rw[<- e,hm] at h3
 revert h3
 decide
theorem int_len(i:Int)(i0:-9223372036854775808<=i)(i1:i<9223372036854775808):(intT i).length<=20:=by
 have len:(decL i.natAbs).length<=19:=decL_length _ 19 (by omega) (by omega)
 unfold intT
 split
 ·simp only[z3z];omega
 ·omega
theorem flt_len(u:Int)(u0:0<=u)(u1:u<18446744073709551616):(fltT u).length<=24:=by
 unfold fltT
 cases hn:nanB u with
 | true=>rw[if_pos rfl];decide
 | false=>
  simp only[z13z,if_false]
  have hm:u%9223372036854775808<=9218868437227405312:=by
   simp only[nanB,decide_eq_false_iff_not] at hn
   omega
  split
  ·have:=posT_len (u-9223372036854775808).toNat (by omega)
   simp only[z3z];omega
  ·have:=posT_len u.toNat (by omega)
   omega
end Go.Proofs.YtknkedihmmbanaaDoor.W

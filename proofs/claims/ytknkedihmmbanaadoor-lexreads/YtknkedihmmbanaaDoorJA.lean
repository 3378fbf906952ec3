import Derived.Laws.FloatArith
import Derived.Deep.Draws
import Derived.Laws.NewFold
import Derived.Test.YtknkedihmmbanaaDoorProg
import Derived.WalkKit
import Derived.WalkLawsBesides
import Derived.Laws.Externs
import Derived.Laws.BitsAllLaws
import Derived.KernelRfl
import Derived.Deep.QuietTactic
import Derived.BigQuiet
open List renaming length_cons → z10z
open Nat renaming mul_assoc → z0z, pow_add → z1z, two_pow_pos → z2z, mul_comm → z3z, eq_of_mul_eq_mul_right → z4z, pow_succ → z5z, mul_one → z6z, pow_le_pow_right → z7z, zero_add → z8z, pow_zero → z9z, mul_lt_mul_of_pos_right → z11z, mul_le_mul_right → z12z
set_option maxRecDepth 1000000
set_option maxHeartbeats 8000000
namespace Go.Proofs.YtknkedihmmbanaaDoor.W
open Ieee
theorem D_sign:Ieee.double.signWeight=9223372036854775808:=by decide
theorem D_bin:Ieee.double.binade=4503599627370496:=by decide
theorem D_inf:Ieee.double.infRung=9218868437227405312:=by decide
theorem D_least:Ieee.double.leastPlace = -1074:=by decide
theorem read_eq(x:Nat):Ieee.double.read x =
  if x%9223372036854775808<4503599627370496 then .number (x/9223372036854775808%2==1) (x%9223372036854775808) (-1074)
  else if x%9223372036854775808<9218868437227405312 then
   .number (x/9223372036854775808%2==1) (4503599627370496+x%9223372036854775808%4503599627370496) (-1074+(x%9223372036854775808/4503599627370496-1:Nat))
  else if x%9223372036854775808=9218868437227405312 then .infinity (x/9223372036854775808%2==1)
  else .nan (x/9223372036854775808%2==1) (x%9223372036854775808-9218868437227405312):=by
 unfold Format.read
 simp only[D_sign,D_bin,D_inf,D_least]
def opI(op:BinOp)(a b:Int):Int:=match floatBits op .f64 a.toNat b.toNat with|some r=>(r:Int)|none=>9221120237041090560
open Go.ChangeShapes Go.WideShapes Go.RowKit
theorem ret_bool{a b:Bool}(h:a=b):Ending.returned (.bool a)=.returned (.bool b):=by rw[h]
theorem ret_int{k:IntKind}{a b:Int}(h:a=b):Ending.returned (.int k a)=.returned (.int k b):=by rw[h]
theorem ret_ii{k l:IntKind}{a a' b b':Int}(h:a=a')(g:b=b'):Ending.returned (.tuple #[.int k a,.int l b])=.returned (.tuple #[.int k a',.int l b']):=by rw[h,g]
theorem hid{p:Prop}(h:p):Hid p:=h
theorem read_number{x:Nat}{s:Bool}{m:Nat}{p:Int}(hx:x<18446744073709551616)(h:Ieee.double.read x=.number s m p) :
  m<9007199254740992/\-1074<=p/\p<=971/\(4503599627370496<=m\/p = -1074)/\x=(if s then 9223372036854775808 else 0)+((p+1074).toNat*4503599627370496+m):=by
 rw[read_eq] at h
 have hs:(if (x/9223372036854775808%2==1)=true then 9223372036854775808 else 0)=x/9223372036854775808*9223372036854775808:=by
  by_cases g:x/9223372036854775808%2=1
  ·simp[g];omega
  ·simp[g];omega
 split at h
 ·cases h
  refine⟨by omega,by omega,by omega,Or.inr rfl,?_⟩
  rw[hs];omega
 ·split at h
  ·cases h
   refine⟨by omega,by omega,by omega,Or.inl (by omega),?_⟩
   rw[hs];omega
  ·split at h <;> cases h
def bigOf(k:Nat):Nat:=2 ^ k
def big:Nat:=bigOf 2200
def key:Datum->Int
 | .number s m p=>signed s m (p+1074).toNat
 | .infinity s=>if s then -(big:Int) else (big:Int)
 | .nan _ _=>0
theorem sum_comm(a b:Datum):a.sum b=b.sum a:=by
 cases a with
 | nan s t=>cases b <;> rfl
 | infinity s=>
  cases b with
  | nan s t=>rfl
  | infinity t=>cases s <;> cases t <;> rfl
  | number t n j=>rfl
 | number s m i=>
  cases b with
  | nan s t=>rfl
  | infinity t=>rfl
  | number t n j=>
   simp only[Datum.sum]
   rw[show min j i=min i j from by omega,Int.add_comm (signed s m _),Bool.and_comm s t]
theorem product_comm(a b:Datum):a.product b=b.product a:=by
 cases a with
 | nan s t=>cases b <;> rfl
 | infinity s=>
  cases b with
  | nan s t=>rfl
  | infinity t=>simp only[Datum.product];rw[Bool.xor_comm]
  | number t n j=>rfl
 | number s m i=>
  cases b with
  | nan s t=>rfl
  | infinity t=>rfl
  | number t n j=>
   simp only[Datum.product]
   rw[Bool.xor_comm,z3z,Int.add_comm]
theorem add_comm(a b:Int):opI .add a b=opI .add b a:=by
 have e:floatBits .add .f64 a.toNat b.toNat=floatBits .add .f64 b.toNat a.toNat:=by
  show ((Ieee.double.read a.toNat).sum (Ieee.double.read b.toNat)).map Ieee.double.write=((Ieee.double.read b.toNat).sum (Ieee.double.read a.toNat)).map Ieee.double.write
  rw[sum_comm]
 unfold opI;rw[e]
theorem mul_comm(a b:Int):opI .mul a b=opI .mul b a:=by
 have e:floatBits .mul .f64 a.toNat b.toNat=floatBits .mul .f64 b.toNat a.toNat:=by
  show ((Ieee.double.read a.toNat).product (Ieee.double.read b.toNat)).map Ieee.double.write=((Ieee.double.read b.toNat).product (Ieee.double.read a.toNat)).map Ieee.double.write
  rw[product_comm]
 unfold opI;rw[e]
def keyI(a:Int):Int:=key (Ieee.double.read a.toNat)
def finB(a:Int):Bool:=decide (a%9223372036854775808<9218868437227405312)
theorem fin_read(a:Int)(h:finB a=true):∃s m p,Ieee.double.read a.toNat=.number s m p:=by
 rw[read_eq]
 simp only[finB,decide_eq_true_eq] at h
 split
 ·exact⟨_,_,_,rfl⟩
 ·rw[if_pos (by omega)];exact⟨_,_,_,rfl⟩
theorem signed_v(s:Bool)(m k:Nat):signed s m k=if s then -((m*2 ^ k:Nat):Int) else ((m*2 ^ k:Nat):Int):=by
 unfold signed;rw[Nat.shiftLeft_eq]
theorem parts(a:Int)(h0:0<=a)(h1:a<9223372036854775808)(hf:finB a=true) :
  ∃m P:Nat,a=((P*4503599627370496+m:Nat):Int)/\m<9007199254740992/\(4503599627370496<=m\/P=0)/\P<=2045/\keyI a=((m*2 ^ P:Nat):Int):=by
 obtain⟨s,m,p,e⟩:=fin_read a hf
 obtain⟨q1,q2,q3,q4,q5⟩:=read_number (by omega) e
 have hs:s=false:=by
  cases s
  ·rfl
  ·simp only[if_true] at q5;omega
 subst hs
 refine⟨m,(p+1074).toNat,?_,q1,by omega,by omega,?_⟩
 ·simp only[Bool.false_eq_true,if_false] at q5;omega
 ·unfold keyI
  rw[e]
  simp only[key,signed_v,Bool.false_eq_true,if_false]
theorem parts_mk(m P:Nat)(h1:m<9007199254740992)(h2:4503599627370496<=m\/P=0)(h3:P<=2045) :
  finB ((P*4503599627370496+m:Nat):Int)=true/\((P*4503599627370496+m:Nat):Int)<9223372036854775808/\keyI ((P*4503599627370496+m:Nat):Int)=((m*2 ^ P:Nat):Int):=by
 have hb:P*4503599627370496+m<9218868437227405312:=by omega
 have hf:finB ((P*4503599627370496+m:Nat):Int)=true:=by
  simp only[finB,decide_eq_true_eq];omega
 refine⟨hf,by omega,?_⟩
 obtain⟨m',P',e,e1,e2,e3,e4⟩:=parts _ (by omega) (by omega) hf
 have hh:P=P'/\m=m':=by
  have e':P*4503599627370496+m=P'*4503599627370496+m':=by omega
  omega
 rw[e4,hh.1,hh.2]
theorem parts_inj{m P m' P':Nat}(h1:m<9007199254740992)(h1':m'<9007199254740992)(h2:4503599627370496<=m\/P=0)(h2':4503599627370496<=m'\/P'=0)(h:m*2 ^ P=m'*2 ^ P'):m=m'/\P=P':=by
 have go:∀ {m P m' P':Nat},m<9007199254740992->(4503599627370496<=m'\/P'=0)->m*2 ^ P=m'*2 ^ P'->¬P<P':=by
  intro m P m' P' k1 k2 k hlt
  have e:2 ^ P'=2 ^ (P'-P)*2 ^ P:=by rw[<- z1z];congr 1;omega
  rw[e,<- z0z] at k
  have k3:m=m'*2 ^ (P'-P):=z4z (z2z P) k
  have k4:2 ^ 1<=2 ^ (P'-P):=z7z (by omega) (by omega)
  have k5:m'*2<=m'*2 ^ (P'-P):=Nat.mul_le_mul_left _ (by omega)
  omega
 have a:=go h1 h2' h
 have b:=go h1' h2 h.symm
 have e:P=P':=by omega
 subst e
 exact⟨z4z (z2z P) h,rfl⟩
theorem key_inj(a b:Int)(a0:0<=a)(a1:a<9223372036854775808)(b0:0<=b)(b1:b<9223372036854775808)(fa:finB a=true)(fb:finB b=true)(h:keyI a=keyI b):a=b:=by
 obtain⟨m,P,e,h1,h2,h3,h4⟩:=parts a a0 a1 fa
 obtain⟨m',P',e',h1',h2',h3',h4'⟩:=parts b b0 b1 fb
 rw[h4,h4'] at h
 have h':m*2 ^ P=m'*2 ^ P':=by exact_mod_cast h
 obtain⟨rfl,rfl⟩:=parts_inj h1 h1' h2 h2' h'
 omega
def ValOf(a:Int)(N:Nat)(low:Int):Prop:=
 0<=a/\a<9223372036854775808/\finB a=true/\∃V:Nat,keyI a=V/\V*2 ^ (-(low+1074)).toNat=N*2 ^ (low+1074).toNat
theorem val_unique{a b:Int}{N:Nat}{low:Int}(ha:ValOf a N low)(hb:ValOf b N low):a=b:=by
 obtain⟨a0,a1,fa,V,ka,va⟩:=ha
 obtain⟨b0,b1,fb,U,kb,vb⟩:=hb
 have:V=U:=z4z (z2z _) (va.trans vb.symm)
 exact key_inj a b a0 a1 b0 b1 fa fb (by rw[ka,kb,this])
theorem val_shift{a:Int}{N:Nat}{low:Int}(k:Nat):ValOf a (N*2 ^ k) low↔ValOf a N (low+k):=by
 unfold ValOf
 constructor
 ·rintro⟨a0,a1,fa,V,ka,va⟩
  refine⟨a0,a1,fa,V,ka,?_⟩
  have e1:(-(low+1074)).toNat+(low+k+1074).toNat=(-(low+k+1074)).toNat+(k+(low+1074).toNat):=by omega
  apply z4z (z2z ((-(low+1074)).toNat))
  have:=congrArg (· * 2 ^ (-(low+k+1074)).toNat) va
  calc V*2 ^ (-(low + ↑k+1074)).toNat*2 ^ (-(low+1074)).toNat=V*2 ^ (-(low+1074)).toNat*2 ^ (-(low+k+1074)).toNat:=by rw[z0z,z0z,z3z (2 ^ _)]
   _=N*2 ^ k*2 ^ (low+1074).toNat*2 ^ (-(low+k+1074)).toNat:=this
   _=N*2 ^ (low + ↑k+1074).toNat*2 ^ (-(low+1074)).toNat:=by
    rw[z0z,z0z,z0z,<- z1z,<- z1z,<- z1z]
    congr 2;omega
 ·rintro⟨a0,a1,fa,V,ka,va⟩
  refine⟨a0,a1,fa,V,ka,?_⟩
  apply z4z (z2z ((-(low+k+1074)).toNat))
  have:=congrArg (· * 2 ^ (-(low+1074)).toNat) va
  calc V*2 ^ (-(low+1074)).toNat*2 ^ (-(low + ↑k+1074)).toNat=V*2 ^ (-(low+k+1074)).toNat*2 ^ (-(low+1074)).toNat:=by rw[z0z,z0z,z3z (2 ^ _)]
   _=N*2 ^ (low+k+1074).toNat*2 ^ (-(low+1074)).toNat:=this
   _=N*2 ^ k*2 ^ (low+1074).toNat*2 ^ (-(low + ↑k+1074)).toNat:=by
    rw[z0z,z0z,z0z,<- z1z,<- z1z,<- z1z]
    congr 2;omega
theorem high_le{n:Nat}(hn:n≠0):2 ^ n.log2<=n/\n<2 ^ (n.log2+1):=⟨Nat.log2_self_le hn,Nat.lt_log2_self⟩
theorem val_make(n:Nat)(low:Int)(hn:n≠0)(h53:n.log2<=52)(hlow:-1074<=low)(hhigh:low+n.log2<=1023) :
  (low+n.log2 < -1022->ValOf ((n*2 ^ (low+1074).toNat:Nat):Int) n low) /\
  (-1022<=low+n.log2->4503599627370496<=n*2 ^ (52-n.log2)/\n*2 ^ (52-n.log2)<9007199254740992 /\
   ((-1074<=low+n.log2-52)->ValOf (((low+n.log2+1023).toNat*4503599627370496+(n*2 ^ (52-n.log2)-4503599627370496):Nat):Int) n low)):=by
 obtain⟨l1,l2⟩:=high_le hn
 have z:(-(low+1074)).toNat=0:=by omega
 constructor
 ·intro h
  have b:n*2 ^ (low+1074).toNat<4503599627370496:=by
   have b1:n*2 ^ (low+1074).toNat<2 ^ (n.log2+1)*2 ^ (low+1074).toNat:=z11z l2 (z2z _)
   rw[<- z1z] at b1
   have b2:2 ^ (n.log2+1+(low+1074).toNat)<=2 ^ 52:=z7z (by omega) (by omega)
   omega
  obtain⟨f,g,k⟩:=parts_mk (n*2 ^ (low+1074).toNat) 0 (by omega) (Or.inr rfl) (by omega)
  rw[Nat.zero_mul,z8z] at f g k
  exact⟨by omega,g,f,_,k,by rw[z,z9z,z6z,z6z]⟩
 ·intro h
  have b1:2 ^ n.log2*2 ^ (52-n.log2)<=n*2 ^ (52-n.log2):=z12z _ l1
  have b2:n*2 ^ (52-n.log2)<2 ^ (n.log2+1)*2 ^ (52-n.log2):=z11z l2 (z2z _)
  rw[<- z1z,show n.log2+(52-n.log2)=52 by omega] at b1
  rw[<- z1z,show n.log2+1+(52-n.log2)=53 by omega] at b2
  have p52:(2:Nat) ^ 52=4503599627370496:=by decide
  have p53:(2:Nat) ^ 53=9007199254740992:=by decide
  rw[p52] at b1
  rw[p53] at b2
  have c1:=b1
  have c2:=b2
  refine⟨c1,c2,λhl=>?_⟩
  obtain⟨f,g,k⟩:=parts_mk (n*2 ^ (52-n.log2)) (low+n.log2+1022).toNat c2 (Or.inl c1) (by omega)
  have e:(low+n.log2+1023).toNat*4503599627370496+(n*2 ^ (52-n.log2)-4503599627370496)=(low+n.log2+1022).toNat*4503599627370496+n*2 ^ (52-n.log2):=by omega
  rw[e]
  refine⟨by omega,g,f,_,k,?_⟩
  have e3:52-n.log2+(low+n.log2+1022).toNat=(low+1074).toNat:=by omega
  rw[z,z9z,z6z,z0z,<- z1z,e3]
theorem val_none(n:Nat)(low:Int)(hn:n%2=1)(h:52<n.log2\/low < -1074\/1023<low+n.log2)(a:Int):¬ValOf a n low:=by
 rintro⟨a0,a1,fa,V,ka,va⟩
 obtain⟨m,P,e,h1,h2,h3,h4⟩:=parts a a0 a1 fa
 have hV:V=m*2 ^ P:=by rw[ka] at h4;exact_mod_cast h4
 have hn0:n≠0:=by omega
 obtain⟨l1,l2⟩:=high_le hn0
 subst hV
 by_cases hl:low < -1074
 ·have z:(low+1074).toNat=0:=by omega
  rw[z,z9z,z6z] at va
  have:(2:Nat) ^ (-(low+1074)).toNat=2 ^ ((-(low+1074)).toNat-1)*2:=by rw[<- z5z];congr 1;omega
  rw[this,<- z0z] at va
  omega
 ·have z:(-(low+1074)).toNat=0:=by omega
  rw[z,z9z,z6z] at va
  rcases h with h|h|h
  ·-- an odd number times a power of two: the other one's factor divides
   have hP:P<=(low+1074).toNat:=by
    false_or_by_contra
    rename_i g
    have e2:(2:Nat) ^ P=2 ^ (P-(low+1074).toNat-1)*2*2 ^ (low+1074).toNat:=by rw[<- z5z,<- z1z];congr 1;omega
    rw[e2,<- z0z] at va
    have:=z4z (z2z _) va
    rw[<- z0z] at this
    omega
   have e2:(2:Nat) ^ (low+1074).toNat=2 ^ ((low+1074).toNat-P)*2 ^ P:=by rw[<- z1z];congr 1;omega
   rw[e2,<- z0z] at va
   have e3:=z4z (z2z _) va
   have e4:n*1<=n*2 ^ ((low+1074).toNat-P):=Nat.mul_le_mul_left _ (z2z _)
   have e5:2 ^ 53<=2 ^ n.log2:=z7z (by omega) (by omega)
   have e6:(2:Nat) ^ 53=9007199254740992:=by decide
   omega
  ·omega
  ·have p53:(2:Nat) ^ 53=9007199254740992:=by decide
   have b0:m<2 ^ 53:=by omega
   have b1:m*2 ^ P<2 ^ 53*2 ^ P:=z11z b0 (z2z _)
   have b2:2 ^ n.log2*2 ^ (low+1074).toNat<=n*2 ^ (low+1074).toNat:=z12z _ l1
   rw[<- z1z] at b1 b2
   have b3:2 ^ (53+P)<=2 ^ (n.log2+(low+1074).toNat):=z7z (by omega) (by omega)
   omega
def dig(d:Nat):UInt8:=UInt8.ofNat (48+d)
theorem dig_toNat(d:Nat)(h:d<10):(dig d).toNat=48+d:=by
 unfold dig
 rw[UInt8.toNat_ofNat']
 omega
def decL(n:Nat):List UInt8:=if n<10 then [dig n] else decL (n/10)++[dig (n%10)]
 termination_by n
 decreasing_by omega
theorem decL_small{n:Nat}(h:n<10):decL n=[dig n]:=by rw[decL,if_pos h]
theorem decL_step{n:Nat}(h:¬n<10):decL n=decL (n/10)++[dig (n%10)]:=by rw[decL,if_neg h]
def valD(l:List UInt8):Nat:=l.foldl (λa c=>10*a+(c.toNat-48)) 0
theorem valD_snoc(l:List UInt8)(c:UInt8):valD (l++[c])=10*valD l+(c.toNat-48):=by simp[valD,List.foldl_append]
def goodD(l:List UInt8):Prop:=l≠[]/\(∀c ∈ l,48<=c.toNat/\c.toNat<=57)/\(l.head? = some (dig 0)->l.length=1)
theorem foldD(l:List UInt8)(a:Nat):l.foldl (λa c=>10*a+(c.toNat-48)) a=a*10 ^ l.length+valD l:=by
 induction l generalizing a with
 | nil=>simp[valD]
 | cons c l ih=>
  have e:valD (c::l)=l.foldl (λa c=>10*a+(c.toNat-48)) (10*0+(c.toNat-48)):=rfl
  rw[List.foldl_cons,ih,e,ih,z10z,z5z,Nat.add_mul,Nat.mul_zero,z8z,Nat.add_assoc]
  congr 1
  rw[z3z 10 a,z0z,z3z 10]
theorem valD_cons(c:UInt8)(l:List UInt8):valD (c::l)=(c.toNat-48)*10 ^ l.length+valD l:=by
 have e:valD (c::l)=l.foldl (λa c=>10*a+(c.toNat-48)) (10*0+(c.toNat-48)):=rfl
 rw[e,foldD,Nat.mul_zero,z8z]
theorem valD_le(l:List UInt8)(h:∀c ∈ l,48<=c.toNat/\c.toNat<=57):valD l<10 ^ l.length:=by
 induction l with
 | nil=>simp[valD]
 | cons c l ih=>
  rw[valD_cons,z10z,z5z]
  have h1:=h c (by simp)
  have h2:=ih (λx hx=>h x (by simp[hx]))
  have h3:(c.toNat-48)*10 ^ l.length<=9*10 ^ l.length:=z12z _ (by omega)
  omega
theorem dig_of(c:UInt8)(h:48<=c.toNat/\c.toNat<=57):dig (c.toNat-48)=c:=by
 apply UInt8.toNat_inj.1
 rw[dig_toNat _ (by omega)]
 omega
theorem dec_val(l:List UInt8)(h:goodD l):decL (valD l)=l:=by
 generalize hk:l.length=k
 induction k using Nat.strongRecOn generalizing l with
 | _ k ih=>
  obtain⟨h1,h2,h3⟩:=h
  have e:=List.dropLast_concat_getLast h1
  have hc:=h2 _ (List.getLast_mem h1)
  generalize l.getLast h1=c at e hc
  generalize hl':l.dropLast=l' at e
  subst e
  by_cases hn:l'=[]
  ·subst hn
   have e1:valD ([]++[c])=c.toNat-48:=by simp[valD]
   rw[e1,decL_small (by omega),dig_of c hc]
   rfl
  ·have hh:(l'++[c]).head? = l'.head?:=by
    cases l' with
    | nil=>exact absurd rfl hn
    | cons a t=>rfl
   have hne:l'.head? ≠ some (dig 0):=by
    intro g
    have:=h3 (by rw[hh];exact g)
    have:0<l'.length:=List.length_pos_iff.2 hn
    simp only[List.length_append,z10z,List.length_nil] at *
    omega
   have g':goodD l':=⟨hn,λx hx=>h2 x (by simp[hx]),λg=>absurd g hne⟩
   have i':=ih l'.length (by rw[<- hk];simp) l' g' rfl
   have hv:valD l'≠0:=by
    intro z
    rw[z,decL_small (by omega)] at i'
    rw[<- i'] at hne
    exact hne rfl
   rw[valD_snoc,decL_step (by omega)]
   have d1:(10*valD l'+(c.toNat-48))/10=valD l':=by omega
   have d2:(10*valD l'+(c.toNat-48))%10=c.toNat-48:=by omega
   rw[d1,d2,i',dig_of c hc]
def hexd(d:Nat):UInt8:=if d<10 then UInt8.ofNat (48+d) else UInt8.ofNat (87+d)
def hexV(c:UInt8):Int:=if 48<=c.toNat/\c.toNat<=57 then c.toNat-48 else if 97<=c.toNat/\c.toNat<=102 then c.toNat-87 else -1
theorem hexd_toNat(d:Nat)(h:d<16):(hexd d).toNat=if d<10 then 48+d else 87+d:=by
 unfold hexd
 split
 ·rw[UInt8.toNat_ofNat'];omega
 ·rw[UInt8.toNat_ofNat'];omega
theorem hexV_hexd(d:Nat)(h:d<16):hexV (hexd d)=d:=by
 unfold hexV
 rw[hexd_toNat d h]
 by_cases g:d<10
 ·rw[if_pos g,if_pos (by omega)];omega
 ·rw[if_neg g,if_neg (by omega),if_pos (by omega)];omega
theorem hexV_range(c:UInt8):-1<=hexV c/\hexV c<16:=by unfold hexV;split <;> (try split) <;> omega
def valH(l:List UInt8):Nat:=l.foldl (λa c=>16*a+(hexV c).toNat) 0
theorem foldH(l:List UInt8)(a:Nat):l.foldl (λa c=>16*a+(hexV c).toNat) a=a*16 ^ l.length+valH l:=by
 induction l generalizing a with
 | nil=>simp[valH]
 | cons c l ih=>
  have e:valH (c::l)=l.foldl (λa c=>16*a+(hexV c).toNat) (16*0+(hexV c).toNat):=rfl
  rw[List.foldl_cons,ih,e,ih,z10z,z5z,Nat.add_mul,Nat.mul_zero,z8z,Nat.add_assoc]
  congr 1
  rw[z3z 16 a,z0z,z3z 16]
theorem valH_append(l m:List UInt8):valH (l++m)=valH l*16 ^ m.length+valH m:=by
 unfold valH
 rw[List.foldl_append,foldH]
 rfl
theorem valH_snoc(l:List UInt8)(c:UInt8):valH (l++[c])=16*valH l+(hexV c).toNat:=by
 rw[valH_append]
 simp[valH]
 omega
theorem pow16(k:Nat):16 ^ k=2 ^ (4*k):=by rw[Nat.pow_mul]
def twos(n:Nat):Nat:=if n=0 then 0 else if n%2=0 then twos (n/2)+1 else 0
 termination_by n
 decreasing_by omega
def oddN(n:Nat):Nat:=if n=0 then 0 else if n%2=0 then oddN (n/2) else n
 termination_by n
 decreasing_by omega
theorem odd_twos(n:Nat)(h:n≠0):oddN n%2=1/\n=oddN n*2 ^ twos n:=by
 induction n using Nat.strongRecOn with
 | _ n ih=>
  rw[oddN,twos]
  rw[if_neg h,if_neg h]
  by_cases g:n%2=0
  ·rw[if_pos g,if_pos g]
   obtain⟨i1,i2⟩:=ih (n/2) (by omega) (by omega)
   refine⟨i1,?_⟩
   rw[z5z,<- z0z,<- i2]
   omega
  ·rw[if_neg g,if_neg g]
   exact⟨by omega,by simp⟩
def exactP(N:Nat)(low:Int):Option Int:=
 if N=0 then some 0
 else if 52<(oddN N).log2\/low+twos N < -1074\/1023<low+twos N+(oddN N).log2 then none
 else if low+twos N+(oddN N).log2 < -1022 then some ((oddN N*2 ^ (low+twos N+1074).toNat:Nat):Int)
 else some (((low+twos N+(oddN N).log2+1023).toNat*4503599627370496+(oddN N*2 ^ (52-(oddN N).log2)-4503599627370496):Nat):Int)
theorem val_zero(a:Int)(low:Int):ValOf a 0 low↔a=0:=by
 constructor
 ·rintro⟨a0,a1,fa,V,ka,va⟩
  rw[Nat.zero_mul] at va
  have hV:V=0:=by
   rcases Nat.mul_eq_zero.1 va with h|h
   ·exact h
   ·exact absurd h (Nat.ne_of_gt (z2z _))
  subst hV
  obtain⟨f,g,k⟩:=parts_mk 0 0 (by omega) (Or.inr rfl) (by omega)
  refine key_inj a 0 a0 a1 (by omega) (by omega) fa (by decide) ?_
  rw[ka]
  have k':keyI ((0*4503599627370496+0:Nat):Int)=0:=by rw[k];simp
  exact k'.symm
 ·rintro rfl
  obtain⟨f,g,k⟩:=parts_mk 0 0 (by omega) (Or.inr rfl) (by omega)
  exact⟨by omega,by omega,by decide,0,k.trans (by simp),by simp⟩
theorem exact_iff(N:Nat)(low:Int)(a:Int):exactP N low=some a↔ValOf a N low:=by
 unfold exactP
 by_cases h0:N=0
 ·subst h0
  rw[if_pos rfl,val_zero]
  simp only[Option.some.injEq]
  exact eq_comm
 ·rw[if_neg h0]
  obtain⟨o1,o2⟩:=odd_twos N h0
  have sh:ValOf a N low↔ValOf a (oddN N) (low+twos N):=by
   have:=val_shift (a:=a) (N:=oddN N) (low:=low) (twos N)
   rw[<- o2] at this
   exact this
  rw[sh]
  have on:oddN N≠0:=by omega
  by_cases h1:52<(oddN N).log2\/low+twos N < -1074\/1023<low+twos N+(oddN N).log2
  ·rw[if_pos h1]
   exact⟨(λh=>by cases h),λh=>absurd h (val_none _ _ o1 h1 a)⟩
  ·rw[if_neg h1]
   obtain⟨m1,m2⟩:=val_make (oddN N) (low+twos N) on (by omega) (by omega) (by omega)
   by_cases h2:low+twos N+(oddN N).log2 < -1022
   ·rw[if_pos h2]
    have v:=m1 h2
    constructor
    ·intro h
     injection h with h
     rw[<- h];exact v
    ·intro h;rw[val_unique v h]
   ·rw[if_neg h2]
    obtain⟨c1,c2,c3⟩:=m2 (by omega)
    have v:=c3 (by omega)
    constructor
    ·intro h
     injection h with h
     rw[<- h];exact v
    ·intro h;rw[val_unique v h]
theorem exact_none(N:Nat)(low:Int):exactP N low=none↔∀a,¬ValOf a N low:=by
 constructor
 ·intro h a ha
  rw[(exact_iff N low a).2 ha] at h
  cases h
 ·intro h
  cases e:exactP N low with
  | none=>rfl
  | some a=>exact absurd ((exact_iff N low a).1 e) (h a)
theorem exact_shift(N:Nat)(low:Int)(k:Nat):exactP (N*2 ^ k) low=exactP N (low+k):=by
 cases e:exactP N (low+k) with
 | some a=>rw[exact_iff];exact(val_shift k).2 ((exact_iff _ _ _).1 e)
 | none=>
  rw[exact_none] at e ⊢
  exact λa h=>e a ((val_shift k).1 h)
theorem exact_range(N:Nat)(low:Int)(a:Int)(h:exactP N low=some a):0<=a/\a<9218868437227405312:=by
 obtain⟨a0,a1,fa,-⟩:=(exact_iff N low a).1 h
 simp only[finB,decide_eq_true_eq] at fa
 omega
def hexB(c:UInt8):Bool:=decide (0<=hexV c)
def digB(c:UInt8):Bool:=decide (48<=c.toNat/\c.toNat<=57)
def formI(m:Bool)(d:List UInt8):Bool:=!d.isEmpty&&d.all digB && !(d.head? == some 48&&(decide (1<d.length)||m))
def readD(m:Bool)(d:List UInt8):Int × Int:=
 if formI m d=true then
  (if (if m=true then valD d<=9223372036854775808 else valD d<9223372036854775808) then ((if m=true then -(valD d:Int) else valD d),0) else (0,13))
 else (0,20)
def readI(l:List UInt8):Int × Int:=
 if 64<l.length then (0,2) else match l with
 | 45::d=>readD true d
 | d=>readD false d
def readPow(N:Nat)(behind:Nat)(r:List UInt8):Option (Nat × Int):=
 match r with
 | 112::sg::ds=>
  if (sg=43\/sg=45)/\ds≠[]/\ds.length<=5/\ds.all digB=true then some (N,(if sg=45 then -(valD ds:Int) else valD ds)-4*behind) else none
 | _=>none
def readBody(r:List UInt8):Option (Nat × Int):=
 if r.takeWhile hexB=[] then none else
 match r.dropWhile hexB with
 | 46::r1=>if r1.takeWhile hexB=[] then none else readPow (valH (r.takeWhile hexB++r1.takeWhile hexB)) (r1.takeWhile hexB).length (r1.dropWhile hexB)
 | r1=>readPow (valH (r.takeWhile hexB)) 0 r1
def readS(s:Int)(l:List UInt8):Int × Int:=
 match l with
 | 48::120::r=>match readBody r with
  | none=>(0,20)
  | some (N,low)=>match exactP N low with
   | none=>(0,21)
   | some a=>(s+a,0)
 | _=>(0,20)
def nanT:List UInt8:=[110,97,110]
def infT:List UInt8:=[105,110,102]
def readF(l:List UInt8):Int × Int:=
 if 64<l.length then (0,2) else if l=nanT then (9221120237041090560,0) else if l=infT then (9218868437227405312,0) else if l=45::infT then (18442240474082181120,0) else match l with
 | 45::b=>readS 9223372036854775808 b
 | b=>readS 0 b
theorem takeWhile_all{p:UInt8->Bool}{l r:List UInt8}(h:∀c ∈ l,p c=true)(hr:∀c,r.head? = some c->p c=false):(l++r).takeWhile p=l/\(l++r).dropWhile p=r:=by
 induction l with
 | nil=>
  cases r with
  | nil=>exact⟨rfl,rfl⟩
  | cons c r=>
   have:=hr c rfl
   exact⟨by simp[this],by simp[this]⟩
 | cons c l ih=>
  have hc:=h c (by simp)
  obtain⟨i1,i2⟩:=ih (λx hx=>h x (by simp[hx]))
  exact⟨by simp[hc,i1],by simp[hc,i2]⟩
theorem form_good{m:Bool}{d:List UInt8}(h:formI m d=true):goodD d/\(m=true->valD d≠0):=by
 unfold formI at h
 rw[Bool.and_eq_true,Bool.and_eq_true] at h
 obtain⟨⟨h1,h2⟩,h3⟩:=h
 have h1':d≠[]:=by simpa using h1
 have h48:(48:UInt8)=dig 0:=by decide
 have hd:∀c ∈ d,48<=c.toNat/\c.toNat<=57:=by
  intro c hc
  exact of_decide_eq_true (List.all_eq_true.1 h2 c hc)
 have g:goodD d:=by
  refine⟨h1',hd,λhh=>?_⟩
  rw[<- h48] at hh
  have e:(d.head? == some 48)=true:=by rw[hh];rfl
  rw[e] at h3
  have:¬1<d.length:=by
   intro hl
   rw[decide_eq_true hl] at h3
   cases h3
  have:0<d.length:=List.length_pos_iff.2 h1'
  omega
 refine⟨g,λhm hz=>?_⟩
 have e:=dec_val d g
 rw[hz,decL_small (by omega)] at e
 rw[<- e,hm] at h3
 revert h3
 decide
end Go.Proofs.YtknkedihmmbanaaDoor.W

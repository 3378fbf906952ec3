import Derived.Laws.FloatArith
import Derived.Deep.Draws
import Derived.Laws.NewFold
import Derived.Test.YtjplieobnknnpaaGreatDoorProg
import Derived.WalkKit
import Derived.WalkLawsBesides
import Derived.Laws.Externs
import Derived.Laws.BitsAllLaws
import Derived.KernelRfl
import Derived.Deep.QuietTactic
import Derived.BigQuiet
open List renaming length_cons → z3z, head?_cons → z12z, foldl_cons → z19z
open Nat renaming pow_add → z0z, mul_assoc → z1z, two_pow_pos → z2z, eq_of_mul_eq_mul_right → z4z, mul_comm → z5z, pow_succ → z6z, zero_add → z7z, mul_one → z8z, pow_le_pow_right → z10z, pow_zero → z11z, mul_lt_mul_of_pos_right → z13z, zero_mul → z14z, mul_le_mul_right → z15z, strongRecOn → z16z, add_mul → z17z, mul_zero → z18z
open Bool renaming false_eq_true → z9z
set_option maxRecDepth 1000000
set_option maxHeartbeats 8000000
namespace Go.Proofs.YtjplieobnknnpaaGreatDoor.W
open Ieee
def IQ(n:Int):Bool:=decide (9218868437227405312<n%9223372036854775808)
def Oh(n:Int):Int:=if IQ n=true then 9221120237041090560 else n
theorem kU:Ieee.double.signWeight=9223372036854775808:=by decide
theorem gZ:Ieee.double.binade=4503599627370496:=by decide
theorem xq:Ieee.double.infRung=9218868437227405312:=by decide
theorem AA1:Ieee.double.leastPlace = -1074:=by decide
theorem bT(x:Nat):Ieee.double.read x =
  if x%9223372036854775808<4503599627370496 then .number (x/9223372036854775808%2==1) (x%9223372036854775808) (-1074)
  else if x%9223372036854775808<9218868437227405312 then
   .number (x/9223372036854775808%2==1) (4503599627370496+x%9223372036854775808%4503599627370496) (-1074+(x%9223372036854775808/4503599627370496-1:Nat))
  else if x%9223372036854775808=9218868437227405312 then .infinity (x/9223372036854775808%2==1)
  else .nan (x/9223372036854775808%2==1) (x%9223372036854775808-9218868437227405312):=by
 unfold Format.read
 simp only[kU,gZ,xq,AA1]
def Md(op:BinOp)(a b:Int):Int:=match floatBits op .f64 a.toNat b.toNat with|some r=>(r:Int)|none=>9221120237041090560
open Go.ChangeShapes Go.WideShapes Go.RowKit
theorem Kg{a b:Bool}(h:a=b):Ending.returned (.bool a)=.returned (.bool b):=by rw[h]
theorem Im{k l:IntKind}{a a' b b':Int}(h:a=a')(g:b=b'):Ending.returned (.tuple #[.int k a,.int l b])=.returned (.tuple #[.int k a',.int l b']):=by rw[h,g]
theorem hid{p:Prop}(h:p):Hid p:=h
theorem ABw{x:Nat}{s:Bool}{m:Nat}{p:Int}(hx:x<18446744073709551616)(h:Ieee.double.read x=.number s m p) :
  m<9007199254740992/\-1074<=p/\p<=971/\(4503599627370496<=m\/p = -1074)/\x=(if s then 9223372036854775808 else 0)+((p+1074).toNat*4503599627370496+m):=by
 rw[bT] at h
 have hs:(if (x/9223372036854775808%2==1)=true then 9223372036854775808 else 0)=x/9223372036854775808*9223372036854775808:=by
  by_cases g:x/9223372036854775808%2=1
  ·simp[g];omega
  ·simp[g];omega
 split at h
 ·cases h
  refine⟨by omega,by omega,by omega,Or.inr rfl,?_⟩
  rw[hs];omega
 ·split at h
  ·cases h
   refine⟨by omega,by omega,by omega,Or.inl (by omega),?_⟩
   rw[hs];omega
  ·split at h <;> cases h
def zP(k:Nat):Nat:=2 ^ k
def big:Nat:=zP 2200
def key:Datum->Int
 | .number s m p=>signed s m (p+1074).toNat
 | .infinity s=>if s then -(big:Int) else (big:Int)
 | .nan _ _=>0
theorem nE(a b:Datum):a.sum b=b.sum a:=by
 cases a with
 | nan s t=>cases b <;> rfl
 | infinity s=>
  cases b with
  | nan s t=>rfl
  | infinity t=>cases s <;> cases t <;> rfl
  | number t n j=>rfl
 | number s m i=>
  cases b with
  | nan s t=>rfl
  | infinity t=>rfl
  | number t n j=>
   simp only[Datum.sum]
   rw[show min j i=min i j from by omega,Int.add_comm (signed s m _),Bool.and_comm s t]
theorem gY(a b:Datum):a.product b=b.product a:=by
 cases a with
 | nan s t=>cases b <;> rfl
 | infinity s=>
  cases b with
  | nan s t=>rfl
  | infinity t=>simp only[Datum.product];rw[Bool.xor_comm]
  | number t n j=>rfl
 | number s m i=>
  cases b with
  | nan s t=>rfl
  | infinity t=>rfl
  | number t n j=>
   simp only[Datum.product]
   rw[Bool.xor_comm,z5z,Int.add_comm]
theorem add_comm(a b:Int):Md .add a b=Md .add b a:=by
 have e:floatBits .add .f64 a.toNat b.toNat=floatBits .add .f64 b.toNat a.toNat:=by
  show ((Ieee.double.read a.toNat).sum (Ieee.double.read b.toNat)).map Ieee.double.write=((Ieee.double.read b.toNat).sum (Ieee.double.read a.toNat)).map Ieee.double.write
  rw[nE]
 unfold Md;rw[e]
theorem mul_comm(a b:Int):Md .mul a b=Md .mul b a:=by
 have e:floatBits .mul .f64 a.toNat b.toNat=floatBits .mul .f64 b.toNat a.toNat:=by
  show ((Ieee.double.read a.toNat).product (Ieee.double.read b.toNat)).map Ieee.double.write=((Ieee.double.read b.toNat).product (Ieee.double.read a.toNat)).map Ieee.double.write
  rw[gY]
 unfold Md;rw[e]
def LC(a:Int):Int:=key (Ieee.double.read a.toNat)
def JN(a:Int):Bool:=decide (a%9223372036854775808<9218868437227405312)
theorem AA5(a:Int)(h:JN a=true):∃s m p,Ieee.double.read a.toNat=.number s m p:=by
 rw[bT]
 simp only[JN,decide_eq_true_eq] at h
 split
 ·exact⟨_,_,_,rfl⟩
 ·rw[if_pos (by omega)];exact⟨_,_,_,rfl⟩
theorem xC(s:Bool)(m k:Nat):signed s m k=if s then -((m*2 ^ k:Nat):Int) else ((m*2 ^ k:Nat):Int):=by
 unfold signed;rw[Nat.shiftLeft_eq]
theorem parts(a:Int)(h0:0<=a)(h1:a<9223372036854775808)(hf:JN a=true) :
  ∃m P:Nat,a=((P*4503599627370496+m:Nat):Int)/\m<9007199254740992/\(4503599627370496<=m\/P=0)/\P<=2045/\LC a=((m*2 ^ P:Nat):Int):=by
 obtain⟨s,m,p,e⟩:=AA5 a hf
 obtain⟨q1,q2,q3,q4,q5⟩:=ABw (by omega) e
 have hs:s=false:=by
  cases s
  ·rfl
  ·simp only[if_true] at q5;omega
 subst hs
 refine⟨m,(p+1074).toNat,?_,q1,by omega,by omega,?_⟩
 ·simp only[z9z,if_false] at q5;omega
 ·unfold LC
  rw[e]
  simp only[key,xC,z9z,if_false]
theorem M0(m P:Nat)(h1:m<9007199254740992)(h2:4503599627370496<=m\/P=0)(h3:P<=2045) :
  JN ((P*4503599627370496+m:Nat):Int)=true/\((P*4503599627370496+m:Nat):Int)<9223372036854775808/\LC ((P*4503599627370496+m:Nat):Int)=((m*2 ^ P:Nat):Int):=by
 have hb:P*4503599627370496+m<9218868437227405312:=by omega
 have hf:JN ((P*4503599627370496+m:Nat):Int)=true:=by
  simp only[JN,decide_eq_true_eq];omega
 refine⟨hf,by omega,?_⟩
 obtain⟨m',P',e,e1,e2,e3,e4⟩:=parts _ (by omega) (by omega) hf
 have hh:P=P'/\m=m':=by
  have e':P*4503599627370496+m=P'*4503599627370496+m':=by omega
  omega
 rw[e4,hh.1,hh.2]
theorem xM{m P m' P':Nat}(h1:m<9007199254740992)(h1':m'<9007199254740992)(h2:4503599627370496<=m\/P=0)(h2':4503599627370496<=m'\/P'=0)(h:m*2 ^ P=m'*2 ^ P'):m=m'/\P=P':=by
 have go:∀ {m P m' P':Nat},m<9007199254740992->(4503599627370496<=m'\/P'=0)->m*2 ^ P=m'*2 ^ P'->¬P<P':=by
  intro m P m' P' k1 k2 k hlt
  have e:2 ^ P'=2 ^ (P'-P)*2 ^ P:=by rw[<- z0z];congr 1;omega
  rw[e,<- z1z] at k
  have k3:m=m'*2 ^ (P'-P):=z4z (z2z P) k
  have k4:2 ^ 1<=2 ^ (P'-P):=z10z (by omega) (by omega)
  have k5:m'*2<=m'*2 ^ (P'-P):=Nat.mul_le_mul_left _ (by omega)
  omega
 have a:=go h1 h2' h
 have b:=go h1' h2 h.symm
 have e:P=P':=by omega
 subst e
 exact⟨z4z (z2z P) h,rfl⟩
theorem key_inj(a b:Int)(a0:0<=a)(a1:a<9223372036854775808)(b0:0<=b)(b1:b<9223372036854775808)(fa:JN a=true)(fb:JN b=true)(h:LC a=LC b):a=b:=by
 obtain⟨m,P,e,h1,h2,h3,h4⟩:=parts a a0 a1 fa
 obtain⟨m',P',e',h1',h2',h3',h4'⟩:=parts b b0 b1 fb
 rw[h4,h4'] at h
 have h':m*2 ^ P=m'*2 ^ P':=by exact_mod_cast h
 obtain⟨rfl,rfl⟩:=xM h1 h1' h2 h2' h'
 omega
def Gl(a:Int)(N:Nat)(low:Int):Prop:=
 0<=a/\a<9223372036854775808/\JN a=true/\∃V:Nat,LC a=V/\V*2 ^ (-(low+1074)).toNat=N*2 ^ (low+1074).toNat
theorem Vu{a b:Int}{N:Nat}{low:Int}(ha:Gl a N low)(hb:Gl b N low):a=b:=by
 obtain⟨a0,a1,fa,V,ka,va⟩:=ha
 obtain⟨b0,b1,fb,U,kb,vb⟩:=hb
 have:V=U:=z4z (z2z _) (va.trans vb.symm)
 exact key_inj a b a0 a1 b0 b1 fa fb (by rw[ka,kb,this])
theorem Nc{a:Int}{N:Nat}{low:Int}(k:Nat):Gl a (N*2 ^ k) low↔Gl a N (low+k):=by
 unfold Gl
 constructor
 ·rintro⟨a0,a1,fa,V,ka,va⟩
  refine⟨a0,a1,fa,V,ka,?_⟩
  have e1:(-(low+1074)).toNat+(low+k+1074).toNat=(-(low+k+1074)).toNat+(k+(low+1074).toNat):=by omega
  apply z4z (z2z ((-(low+1074)).toNat))
  have:=congrArg (· * 2 ^ (-(low+k+1074)).toNat) va
  calc V*2 ^ (-(low + ↑k+1074)).toNat*2 ^ (-(low+1074)).toNat=V*2 ^ (-(low+1074)).toNat*2 ^ (-(low+k+1074)).toNat:=by rw[z1z,z1z,z5z (2 ^ _)]
   _=N*2 ^ k*2 ^ (low+1074).toNat*2 ^ (-(low+k+1074)).toNat:=this
   _=N*2 ^ (low + ↑k+1074).toNat*2 ^ (-(low+1074)).toNat:=by
    rw[z1z,z1z,z1z,<- z0z,<- z0z,<- z0z]
    congr 2;omega
 ·rintro⟨a0,a1,fa,V,ka,va⟩
  refine⟨a0,a1,fa,V,ka,?_⟩
  apply z4z (z2z ((-(low+k+1074)).toNat))
  have:=congrArg (· * 2 ^ (-(low+1074)).toNat) va
  calc V*2 ^ (-(low+1074)).toNat*2 ^ (-(low + ↑k+1074)).toNat=V*2 ^ (-(low+k+1074)).toNat*2 ^ (-(low+1074)).toNat:=by rw[z1z,z1z,z5z (2 ^ _)]
   _=N*2 ^ (low+k+1074).toNat*2 ^ (-(low+1074)).toNat:=this
   _=N*2 ^ k*2 ^ (low+1074).toNat*2 ^ (-(low + ↑k+1074)).toNat:=by
    rw[z1z,z1z,z1z,<- z0z,<- z0z,<- z0z]
    congr 2;omega
theorem JL{n:Nat}(hn:n≠0):2 ^ n.log2<=n/\n<2 ^ (n.log2+1):=⟨Nat.log2_self_le hn,Nat.lt_log2_self⟩
theorem kS(n:Nat)(low:Int)(hn:n≠0)(h53:n.log2<=52)(hlow:-1074<=low)(hhigh:low+n.log2<=1023) :
  (low+n.log2 < -1022->Gl ((n*2 ^ (low+1074).toNat:Nat):Int) n low) /\
  (-1022<=low+n.log2->4503599627370496<=n*2 ^ (52-n.log2)/\n*2 ^ (52-n.log2)<9007199254740992 /\
   ((-1074<=low+n.log2-52)->Gl (((low+n.log2+1023).toNat*4503599627370496+(n*2 ^ (52-n.log2)-4503599627370496):Nat):Int) n low)):=by
 obtain⟨l1,l2⟩:=JL hn
 have z:(-(low+1074)).toNat=0:=by omega
 constructor
 ·intro h
  have b:n*2 ^ (low+1074).toNat<4503599627370496:=by
   have b1:n*2 ^ (low+1074).toNat<2 ^ (n.log2+1)*2 ^ (low+1074).toNat:=z13z l2 (z2z _)
   rw[<- z0z] at b1
   have b2:2 ^ (n.log2+1+(low+1074).toNat)<=2 ^ 52:=z10z (by omega) (by omega)
   omega
  obtain⟨f,g,k⟩:=M0 (n*2 ^ (low+1074).toNat) 0 (by omega) (Or.inr rfl) (by omega)
  rw[z14z,z7z] at f g k
  exact⟨by omega,g,f,_,k,by rw[z,z11z,z8z,z8z]⟩
 ·intro h
  have b1:2 ^ n.log2*2 ^ (52-n.log2)<=n*2 ^ (52-n.log2):=z15z _ l1
  have b2:n*2 ^ (52-n.log2)<2 ^ (n.log2+1)*2 ^ (52-n.log2):=z13z l2 (z2z _)
  rw[<- z0z,show n.log2+(52-n.log2)=52 by omega] at b1
  rw[<- z0z,show n.log2+1+(52-n.log2)=53 by omega] at b2
  have p52:(2:Nat) ^ 52=4503599627370496:=by decide
  have p53:(2:Nat) ^ 53=9007199254740992:=by decide
  rw[p52] at b1
  rw[p53] at b2
  have c1:=b1
  have c2:=b2
  refine⟨c1,c2,λhl=>?_⟩
  obtain⟨f,g,k⟩:=M0 (n*2 ^ (52-n.log2)) (low+n.log2+1022).toNat c2 (Or.inl c1) (by omega)
  have e:(low+n.log2+1023).toNat*4503599627370496+(n*2 ^ (52-n.log2)-4503599627370496)=(low+n.log2+1022).toNat*4503599627370496+n*2 ^ (52-n.log2):=by omega
  rw[e]
  refine⟨by omega,g,f,_,k,?_⟩
  have e3:52-n.log2+(low+n.log2+1022).toNat=(low+1074).toNat:=by omega
  rw[z,z11z,z8z,z1z,<- z0z,e3]
theorem oI(n:Nat)(low:Int)(hn:n%2=1)(h:52<n.log2\/low < -1074\/1023<low+n.log2)(a:Int):¬Gl a n low:=by
 rintro⟨a0,a1,fa,V,ka,va⟩
 obtain⟨m,P,e,h1,h2,h3,h4⟩:=parts a a0 a1 fa
 have hV:V=m*2 ^ P:=by rw[ka] at h4;exact_mod_cast h4
 have hn0:n≠0:=by omega
 obtain⟨l1,l2⟩:=JL hn0
 subst hV
 by_cases hl:low < -1074
 ·have z:(low+1074).toNat=0:=by omega
  rw[z,z11z,z8z] at va
  have:(2:Nat) ^ (-(low+1074)).toNat=2 ^ ((-(low+1074)).toNat-1)*2:=by rw[<- z6z];congr 1;omega
  rw[this,<- z1z] at va
  omega
 ·have z:(-(low+1074)).toNat=0:=by omega
  rw[z,z11z,z8z] at va
  rcases h with h|h|h
  ·-- an odd number times a power of two: the other one's factor divides
   have hP:P<=(low+1074).toNat:=by
    false_or_by_contra
    rename_i g
    have e2:(2:Nat) ^ P=2 ^ (P-(low+1074).toNat-1)*2*2 ^ (low+1074).toNat:=by rw[<- z6z,<- z0z];congr 1;omega
    rw[e2,<- z1z] at va
    have:=z4z (z2z _) va
    rw[<- z1z] at this
    omega
   have e2:(2:Nat) ^ (low+1074).toNat=2 ^ ((low+1074).toNat-P)*2 ^ P:=by rw[<- z0z];congr 1;omega
   rw[e2,<- z1z] at va
   have e3:=z4z (z2z _) va
   have e4:n*1<=n*2 ^ ((low+1074).toNat-P):=Nat.mul_le_mul_left _ (z2z _)
   have e5:2 ^ 53<=2 ^ n.log2:=z10z (by omega) (by omega)
   have e6:(2:Nat) ^ 53=9007199254740992:=by decide
   omega
  ·omega
  ·have p53:(2:Nat) ^ 53=9007199254740992:=by decide
   have b0:m<2 ^ 53:=by omega
   have b1:m*2 ^ P<2 ^ 53*2 ^ P:=z13z b0 (z2z _)
   have b2:2 ^ n.log2*2 ^ (low+1074).toNat<=n*2 ^ (low+1074).toNat:=z15z _ l1
   rw[<- z0z] at b1 b2
   have b3:2 ^ (53+P)<=2 ^ (n.log2+(low+1074).toNat):=z10z (by omega) (by omega)
   omega
def Gi(d:Nat):UInt8:=UInt8.ofNat (48+d)
theorem Ml(d:Nat)(h:d<10):(Gi d).toNat=48+d:=by
 unfold Gi
 rw[UInt8.toNat_ofNat']
 omega
def BU(n:Nat):List UInt8:=if n<10 then [Gi n] else BU (n/10)++[Gi (n%10)]
 termination_by n
 decreasing_by omega
theorem LU{n:Nat}(h:n<10):BU n=[Gi n]:=by rw[BU,if_pos h]
theorem Ou{n:Nat}(h:¬n<10):BU n=BU (n/10)++[Gi (n%10)]:=by rw[BU,if_neg h]
def Ae(l:List UInt8):Nat:=l.foldl (λa c=>10*a+(c.toNat-48)) 0
theorem aZ(l:List UInt8)(c:UInt8):Ae (l++[c])=10*Ae l+(c.toNat-48):=by simp[Ae,List.foldl_append]
theorem QL(n:Nat):Ae (BU n)=n:=by
 induction n using z16z with
 | _ n ih=>
  by_cases h:n<10
  ·rw[LU h]
   simp only[Ae,z19z,List.foldl_nil,Ml n h]
   omega
  ·rw[Ou h,aZ,ih _ (by omega),Ml _ (by omega)]
   omega
def goodD(l:List UInt8):Prop:=l≠[]/\(∀c ∈ l,48<=c.toNat/\c.toNat<=57)/\(l.head? = some (Gi 0)->l.length=1)
theorem Pe(n:Nat):∀c ∈ BU n,48<=c.toNat/\c.toNat<=57:=by
 induction n using z16z with
 | _ n ih=>
  intro c hc
  by_cases h:n<10
  ·rw[LU h] at hc
   simp only[List.mem_singleton] at hc
   rw[hc,Ml n h];omega
  ·rw[Ou h,List.mem_append] at hc
   rcases hc with hc|hc
   ·exact ih _ (by omega) c hc
   ·simp only[List.mem_singleton] at hc
    rw[hc,Ml _ (by omega)];omega
theorem OL(n:Nat):BU n≠[]:=by
 by_cases h:n<10
 ·rw[LU h];simp
 ·rw[Ou h];simp
theorem ZV(n:Nat)(hn:n≠0):(BU n).head? ≠ some (Gi 0):=by
 induction n using z16z with
 | _ n ih=>
  by_cases h:n<10
  ·rw[LU h]
   simp only[z12z,ne_eq,Option.some.injEq]
   intro e
   have:=congrArg UInt8.toNat e
   rw[Ml n h,Ml 0 (by omega)] at this
   omega
  ·have g:=ih (n/10) (by omega) (by omega)
   rw[Ou h]
   cases e:BU (n/10) with
   | nil=>exact absurd e (OL _)
   | cons a l=>rw[e] at g;simpa using g
theorem uU(n:Nat):goodD (BU n):=by
 refine⟨OL n,Pe n,λh=>?_⟩
 by_cases hn:n=0
 ·subst hn;rw[LU (by omega)];rfl
 ·exact absurd h (ZV n hn)
theorem PI(n k:Nat)(h:n<10 ^ k)(hk:0<k):(BU n).length<=k:=by
 induction k generalizing n with
 | zero=>omega
 | succ k ih=>
  by_cases hs:n<10
  ·rw[LU hs];simp
  ·rw[Ou hs,List.length_append]
   have hk':0<k:=by
    rcases Nat.eq_zero_or_pos k with e|e
    ·subst e;simp at h;omega
    ·exact e
   have:=ih (n/10) (by rw[z6z] at h;omega) hk'
   simp only[z3z,List.length_nil]
   omega
theorem Z5(l:List UInt8)(a:Nat):l.foldl (λa c=>10*a+(c.toNat-48)) a=a*10 ^ l.length+Ae l:=by
 induction l generalizing a with
 | nil=>simp[Ae]
 | cons c l ih=>
  have e:Ae (c::l)=l.foldl (λa c=>10*a+(c.toNat-48)) (10*0+(c.toNat-48)):=rfl
  rw[z19z,ih,e,ih,z3z,z6z,z17z,z18z,z7z,Nat.add_assoc]
  congr 1
  rw[z5z 10 a,z1z,z5z 10]
theorem vR(c:UInt8)(l:List UInt8):Ae (c::l)=(c.toNat-48)*10 ^ l.length+Ae l:=by
 have e:Ae (c::l)=l.foldl (λa c=>10*a+(c.toNat-48)) (10*0+(c.toNat-48)):=rfl
 rw[e,Z5,z18z,z7z]
theorem YU(l:List UInt8)(h:∀c ∈ l,48<=c.toNat/\c.toNat<=57):Ae l<10 ^ l.length:=by
 induction l with
 | nil=>simp[Ae]
 | cons c l ih=>
  rw[vR,z3z,z6z]
  have h1:=h c (by simp)
  have h2:=ih (λx hx=>h x (by simp[hx]))
  have h3:(c.toNat-48)*10 ^ l.length<=9*10 ^ l.length:=z15z _ (by omega)
  omega
def Fq(d:Nat):UInt8:=if d<10 then UInt8.ofNat (48+d) else UInt8.ofNat (87+d)
def Aw(c:UInt8):Int:=if 48<=c.toNat/\c.toNat<=57 then c.toNat-48 else if 97<=c.toNat/\c.toNat<=102 then c.toNat-87 else -1
theorem ACT(d:Nat)(h:d<16):(Fq d).toNat=if d<10 then 48+d else 87+d:=by
 unfold Fq
 split
 ·rw[UInt8.toNat_ofNat'];omega
 ·rw[UInt8.toNat_ofNat'];omega
theorem Sy(d:Nat)(h:d<16):Aw (Fq d)=d:=by
 unfold Aw
 rw[ACT d h]
 by_cases g:d<10
 ·rw[if_pos g,if_pos (by omega)];omega
 ·rw[if_neg g,if_neg (by omega),if_pos (by omega)];omega
theorem RJ(c:UInt8):-1<=Aw c/\Aw c<16:=by unfold Aw;split <;> (try split) <;> omega
def Bv(l:List UInt8):Nat:=l.foldl (λa c=>16*a+(Aw c).toNat) 0
theorem Vy(l:List UInt8)(a:Nat):l.foldl (λa c=>16*a+(Aw c).toNat) a=a*16 ^ l.length+Bv l:=by
 induction l generalizing a with
 | nil=>simp[Bv]
 | cons c l ih=>
  have e:Bv (c::l)=l.foldl (λa c=>16*a+(Aw c).toNat) (16*0+(Aw c).toNat):=rfl
  rw[z19z,ih,e,ih,z3z,z6z,z17z,z18z,z7z,Nat.add_assoc]
  congr 1
  rw[z5z 16 a,z1z,z5z 16]
theorem Vf(c:UInt8)(l:List UInt8):Bv (c::l)=(Aw c).toNat*16 ^ l.length+Bv l:=by
 have e:Bv (c::l)=l.foldl (λa c=>16*a+(Aw c).toNat) (16*0+(Aw c).toNat):=rfl
 rw[e,Vy,z18z,z7z]
theorem lD(l m:List UInt8):Bv (l++m)=Bv l*16 ^ m.length+Bv m:=by
 unfold Bv
 rw[List.foldl_append,Vy]
 rfl
theorem VA(l:List UInt8)(c:UInt8):Bv (l++[c])=16*Bv l+(Aw c).toNat:=by
 rw[lD]
 simp[Bv]
 omega
def Bl:Nat->Nat->List UInt8
 | 0,_=>[]
 | k+1,f=>if f=0 then [] else Fq (f/281474976710656)::Bl k (f%281474976710656*16)
theorem NU(k:Nat):16 ^ k=2 ^ (4*k):=by rw[Nat.pow_mul]
theorem Zu(k f:Nat)(hk:k<=13)(h1:f<4503599627370496)(h2:f%2 ^ (52-4*k)=0) :
  (Bl k f).length<=k/\Bv (Bl k f)*2 ^ (52-4*(Bl k f).length)=f/\(∀c ∈ Bl k f,0<=Aw c):=by
 induction k generalizing f with
 | zero=>
  have:f=0:=by
   have e:(2:Nat) ^ (52-4*0)=4503599627370496:=by decide
   rw[e] at h2;omega
  subst this
  exact⟨Nat.le_refl _,by simp[Bl,Bv],by simp[Bl]⟩
 | succ k ih=>
  unfold Bl
  by_cases hf:f=0
  ·rw[if_pos hf]
   subst hf
   exact⟨by simp,by simp[Bv],by simp⟩
  ·rw[if_neg hf]
   have hd:f/281474976710656<16:=by omega
   have hr:f%281474976710656*16<4503599627370496:=by omega
   have hm:f%281474976710656*16%2 ^ (52-4*k)=0:=by
    have e1:(2:Nat) ^ (52-4*k)=2 ^ (52-4*(k+1))*16:=by
     rw[show (16:Nat)=2 ^ 4 by decide,<- z0z];congr 1;omega
    rw[e1,Nat.mul_mod_mul_right]
    have e2:(281474976710656:Nat)=2 ^ (52-4*(k+1))*2 ^ (4*k):=by
     rw[<- z0z,show 52-4*(k+1)+4*k=48 by omega]
    rw[e2,Nat.mod_mul_right_mod,h2,z14z]
   obtain⟨i1,i2,i3⟩:=ih (f%281474976710656*16) (by omega) hr hm
   generalize Bl k (f%281474976710656*16)=l at i1 i2 i3
   refine⟨by simp only[z3z];omega,?_,?_⟩
   ·rw[Vf,Sy _ hd,Int.toNat_natCast,z3z,z17z]
    have e3:16 ^ l.length*2 ^ (52-4*(l.length+1))=281474976710656:=by
     rw[NU,<- z0z,show 4*l.length+(52-4*(l.length+1))=48 by omega]
    have e4:(2:Nat) ^ (52-4*l.length)=2 ^ (52-4*(l.length+1))*16:=by
     rw[show (16:Nat)=2 ^ 4 by decide,<- z0z];congr 1;omega
    rw[e4,<- z1z] at i2
    have e5:Bv l*2 ^ (52-4*(l.length+1))=f%281474976710656:=z4z (by decide:0<16) i2
    rw[e5,z1z,e3]
    omega
   ·intro c hc
    rcases List.mem_cons.1 hc with rfl|hc
    ·rw[Sy _ hd];omega
    ·exact i3 c hc
theorem Tf(f:Nat)(h1:f<4503599627370496) :
  (Bl 13 f).length<=13/\Bv (Fq 1::Bl 13 f)*2 ^ (52-4*(Bl 13 f).length)=4503599627370496+f:=by
 have e0:(2:Nat) ^ (52-4*13)=1:=by decide
 obtain⟨i1,i2,-⟩:=Zu 13 f (Nat.le_refl _) h1 (by rw[e0];omega)
 refine⟨i1,?_⟩
 rw[Vf,Sy 1 (by omega),Int.toNat_natCast,z17z,i2,Nat.one_mul,NU,<- z0z,show 4*(Bl 13 f).length+(52-4*(Bl 13 f).length)=52 by omega]
def BH(a:Nat):Int:=if a<4503599627370496 then (a.log2:Int)-1074 else (a/4503599627370496:Nat)-1023
def CJ(a:Nat):Nat:=if a<4503599627370496 then a*2 ^ (52-a.log2)-4503599627370496 else a%4503599627370496
theorem Mt(a:Nat)(h0:a≠0)(h1:a<9218868437227405312) :
  CJ a<4503599627370496/\Gl (a:Int) (4503599627370496+CJ a) (BH a-52)/\-1074<=BH a/\BH a<=1023:=by
 unfold CJ BH
 by_cases hs:a<4503599627370496
 ·rw[if_pos hs,if_pos hs]
  obtain⟨l1,l2⟩:=JL h0
  have hl:a.log2<=51:=by
   false_or_by_contra
   rename_i g
   have:2 ^ 52<=2 ^ a.log2:=z10z (by omega) (by omega)
   have p52:(2:Nat) ^ 52=4503599627370496:=by decide
   omega
  have b1:2 ^ a.log2*2 ^ (52-a.log2)<=a*2 ^ (52-a.log2):=z15z _ l1
  have b2:a*2 ^ (52-a.log2)<2 ^ (a.log2+1)*2 ^ (52-a.log2):=z13z l2 (z2z _)
  rw[<- z0z,show a.log2+(52-a.log2)=52 by omega] at b1
  rw[<- z0z,show a.log2+1+(52-a.log2)=53 by omega] at b2
  have p52:(2:Nat) ^ 52=4503599627370496:=by decide
  have p53:(2:Nat) ^ 53=9007199254740992:=by decide
  rw[p52] at b1
  rw[p53] at b2
  refine⟨by omega,?_,by omega,by omega⟩
  have e:4503599627370496+(a*2 ^ (52-a.log2)-4503599627370496)=a*2 ^ (52-a.log2):=by omega
  rw[e]
  have sh:=(Nc (a:=(a:Int)) (N:=a) (low:=(a.log2:Int)-1074-52) (52-a.log2)).2
  refine sh ?_
  have el:(a.log2:Int)-1074-52+((52-a.log2:Nat):Int) = -1074:=by omega
  rw[el]
  obtain⟨f,g,k⟩:=M0 a 0 (by omega) (Or.inr rfl) (by omega)
  rw[z14z,z7z] at f g k
  exact⟨by omega,g,f,_,k,by simp⟩
 ·rw[if_neg hs,if_neg hs]
  have hr:a%4503599627370496<4503599627370496:=Nat.mod_lt _ (by decide)
  refine⟨hr,?_,by omega,by omega⟩
  obtain⟨f,g,k⟩:=M0 (4503599627370496+a%4503599627370496) (a/4503599627370496-1) (by omega) (Or.inl (by omega)) (by omega)
  have e:(a/4503599627370496-1)*4503599627370496+(4503599627370496+a%4503599627370496)=a:=by omega
  rw[e] at f g k
  refine⟨by omega,g,f,_,k,?_⟩
  have z:(-(((a/4503599627370496:Nat):Int)-1023-52+1074)).toNat=0:=by omega
  have y:(((a/4503599627370496:Nat):Int)-1023-52+1074).toNat=a/4503599627370496-1:=by omega
  rw[z,y,z11z,z8z]
theorem ACB(a:Nat)(h0:a≠0)(h1:a<9218868437227405312) :
  Gl (a:Int) (Bv (Fq 1::Bl 13 (CJ a))) (BH a-4*(Bl 13 (CJ a)).length):=by
 obtain⟨f1,f2,f3,f4⟩:=Mt a h0 h1
 obtain⟨g1,g2⟩:=Tf (CJ a) f1
 rw[<- g2] at f2
 have sh:=(Nc (a:=(a:Int)) (N:=Bv (Fq 1::Bl 13 (CJ a))) (low:=BH a-52) (52-4*(Bl 13 (CJ a)).length)).1 f2
 have el:BH a-52+((52-4*(Bl 13 (CJ a)).length:Nat):Int)=BH a-4*(Bl 13 (CJ a)).length:=by omega
 rw[el] at sh
 exact sh
def Ay(n:Nat):Nat:=if n=0 then 0 else if n%2=0 then Ay (n/2)+1 else 0
 termination_by n
 decreasing_by omega
def Ah(n:Nat):Nat:=if n=0 then 0 else if n%2=0 then Ah (n/2) else n
 termination_by n
 decreasing_by omega
theorem Qt(n:Nat)(h:n≠0):Ah n%2=1/\n=Ah n*2 ^ Ay n:=by
 induction n using z16z with
 | _ n ih=>
  rw[Ah,Ay]
  rw[if_neg h,if_neg h]
  by_cases g:n%2=0
  ·rw[if_pos g,if_pos g]
   obtain⟨i1,i2⟩:=ih (n/2) (by omega) (by omega)
   refine⟨i1,?_⟩
   rw[z6z,<- z1z,<- i2]
   omega
  ·rw[if_neg g,if_neg g]
   exact⟨by omega,by simp⟩
def DV(N:Nat)(low:Int):Option Int:=
 if N=0 then some 0
 else if 52<(Ah N).log2\/low+Ay N < -1074\/1023<low+Ay N+(Ah N).log2 then none
 else if low+Ay N+(Ah N).log2 < -1022 then some ((Ah N*2 ^ (low+Ay N+1074).toNat:Nat):Int)
 else some (((low+Ay N+(Ah N).log2+1023).toNat*4503599627370496+(Ah N*2 ^ (52-(Ah N).log2)-4503599627370496):Nat):Int)
theorem val_zero(a:Int)(low:Int):Gl a 0 low↔a=0:=by
 constructor
 ·rintro⟨a0,a1,fa,V,ka,va⟩
  rw[z14z] at va
  have hV:V=0:=by
   rcases Nat.mul_eq_zero.1 va with h|h
   ·exact h
   ·exact absurd h (Nat.ne_of_gt (z2z _))
  subst hV
  obtain⟨f,g,k⟩:=M0 0 0 (by omega) (Or.inr rfl) (by omega)
  refine key_inj a 0 a0 a1 (by omega) (by omega) fa (by decide) ?_
  rw[ka]
  have k':LC ((0*4503599627370496+0:Nat):Int)=0:=by rw[k];simp
  exact k'.symm
 ·rintro rfl
  obtain⟨f,g,k⟩:=M0 0 0 (by omega) (Or.inr rfl) (by omega)
  exact⟨by omega,by omega,by decide,0,k.trans (by simp),by simp⟩
theorem NA(N:Nat)(low:Int)(a:Int):DV N low=some a↔Gl a N low:=by
 unfold DV
 by_cases h0:N=0
 ·subst h0
  rw[if_pos rfl,val_zero]
  simp only[Option.some.injEq]
  exact eq_comm
 ·rw[if_neg h0]
  obtain⟨o1,o2⟩:=Qt N h0
  have sh:Gl a N low↔Gl a (Ah N) (low+Ay N):=by
   have:=Nc (a:=a) (N:=Ah N) (low:=low) (Ay N)
   rw[<- o2] at this
   exact this
  rw[sh]
  have on:Ah N≠0:=by omega
  by_cases h1:52<(Ah N).log2\/low+Ay N < -1074\/1023<low+Ay N+(Ah N).log2
  ·rw[if_pos h1]
   exact⟨(λh=>by cases h),λh=>absurd h (oI _ _ o1 h1 a)⟩
  ·rw[if_neg h1]
   obtain⟨m1,m2⟩:=kS (Ah N) (low+Ay N) on (by omega) (by omega) (by omega)
   by_cases h2:low+Ay N+(Ah N).log2 < -1022
   ·rw[if_pos h2]
    have v:=m1 h2
    constructor
    ·intro h
     injection h with h
     rw[<- h];exact v
    ·intro h;rw[Vu v h]
   ·rw[if_neg h2]
    obtain⟨c1,c2,c3⟩:=m2 (by omega)
    have v:=c3 (by omega)
    constructor
    ·intro h
     injection h with h
     rw[<- h];exact v
    ·intro h;rw[Vu v h]
theorem wC(N:Nat)(low:Int):DV N low=none↔∀a,¬Gl a N low:=by
 constructor
 ·intro h a ha
  rw[(NA N low a).2 ha] at h
  cases h
 ·intro h
  cases e:DV N low with
  | none=>rfl
  | some a=>exact absurd ((NA N low a).1 e) (h a)
theorem vH(N:Nat)(low:Int)(k:Nat):DV (N*2 ^ k) low=DV N (low+k):=by
 cases e:DV N (low+k) with
 | some a=>rw[NA];exact(Nc k).2 ((NA _ _ _).1 e)
 | none=>
  rw[wC] at e ⊢
  exact λa h=>e a ((Nc k).1 h)
theorem zX(a:Nat)(h0:a≠0)(h1:a<9218868437227405312) :
  DV (Bv (Fq 1::Bl 13 (CJ a))) (BH a-4*(Bl 13 (CJ a)).length)=some (a:Int):=
 (NA _ _ _).2 (ACB a h0 h1)
theorem Wj(N:Nat)(low:Int)(a:Int)(h:DV N low=some a):0<=a/\a<9218868437227405312:=by
 obtain⟨a0,a1,fa,-⟩:=(NA N low a).1 h
 simp only[JN,decide_eq_true_eq] at fa
 omega
def BA(c:UInt8):Bool:=decide (0<=Aw c)
def AV(c:UInt8):Bool:=decide (48<=c.toNat/\c.toNat<=57)
def Dz(i:Int):List UInt8:=if i<0 then 45::BU i.natAbs else BU i.natAbs
def MQ(m:Bool)(d:List UInt8):Bool:=!d.isEmpty&&d.all AV && !(d.head? == some 48&&(decide (1<d.length)||m))
def FQ(m:Bool)(d:List UInt8):Int × Int:=
 if MQ m d=true then
  (if (if m=true then Ae d<=9223372036854775808 else Ae d<9223372036854775808) then ((if m=true then -(Ae d:Int) else Ae d),0) else (0,13))
 else (0,20)
def Dg(l:List UInt8):Int × Int:=
 if 64<l.length then (0,2) else match l with
 | 45::d=>FQ true d
 | d=>FQ false d
def KT(N:Nat)(behind:Nat)(r:List UInt8):Option (Nat × Int):=
 match r with
 | 112::sg::ds=>
  if (sg=43\/sg=45)/\ds≠[]/\ds.length<=5/\ds.all AV=true then some (N,(if sg=45 then -(Ae ds:Int) else Ae ds)-4*behind) else none
 | _=>none
def readBody(r:List UInt8):Option (Nat × Int):=
 if r.takeWhile BA=[] then none else
 match r.dropWhile BA with
 | 46::r1=>if r1.takeWhile BA=[] then none else KT (Bv (r.takeWhile BA++r1.takeWhile BA)) (r1.takeWhile BA).length (r1.dropWhile BA)
 | r1=>KT (Bv (r.takeWhile BA)) 0 r1
def Ii(s:Int)(l:List UInt8):Int × Int:=
 match l with
 | 48::120::r=>match readBody r with
  | none=>(0,20)
  | some (N,low)=>match DV N low with
   | none=>(0,21)
   | some a=>(s+a,0)
 | _=>(0,20)
def Gb:List UInt8:=[110,97,110]
def Dw:List UInt8:=[105,110,102]
def Du(l:List UInt8):Int × Int:=
 if 64<l.length then (0,2) else if l=Gb then (9221120237041090560,0) else if l=Dw then (9218868437227405312,0) else if l=45::Dw then (18442240474082181120,0) else match l with
 | 45::b=>Ii 9223372036854775808 b
 | b=>Ii 0 b
def CO(a:Nat):List UInt8:=
 if a=9218868437227405312 then Dw else if a=0 then [48,120,48,112,43,48]
 else [48,120,49]++(if CJ a=0 then [] else 46::Bl 13 (CJ a))++[112]++(if BH a<0 then [45] else [43])++BU (BH a).natAbs
def Ec(u:Int):List UInt8:=if IQ u=true then Gb else if 9223372036854775808<=u then 45::CO (u-9223372036854775808).toNat else CO u.toNat
theorem NI{p:UInt8->Bool}{l r:List UInt8}(h:∀c ∈ l,p c=true)(hr:∀c,r.head? = some c->p c=false):(l++r).takeWhile p=l/\(l++r).dropWhile p=r:=by
 induction l with
 | nil=>
  cases r with
  | nil=>exact⟨rfl,rfl⟩
  | cons c r=>
   have:=hr c rfl
   exact⟨by simp[this],by simp[this]⟩
 | cons c l ih=>
  have hc:=h c (by simp)
  obtain⟨i1,i2⟩:=ih (λx hx=>h x (by simp[hx]))
  exact⟨by simp[hc,i1],by simp[hc,i2]⟩
theorem Yw(N behind:Nat)(sg:UInt8)(ds:List UInt8)(h1:sg=43\/sg=45)(h2:ds≠[])(h3:ds.length<=5)(h4:ds.all AV=true) :
  KT N behind (112::sg::ds)=some (N,(if sg=45 then -(Ae ds:Int) else Ae ds)-4*behind):=by
 unfold KT
 exact if_pos ⟨h1,h2,h3,h4⟩
theorem vU(ah:List UInt8)(sg:UInt8)(ds:List UInt8)(ha:∀c ∈ ah,BA c=true)(hn:ah≠[])(h1:sg=43\/sg=45)(h2:ds≠[])(h3:ds.length<=5)(h4:ds.all AV=true) :
  readBody (ah++112::sg::ds)=some (Bv ah,(if sg=45 then -(Ae ds:Int) else Ae ds)):=by
 obtain⟨t1,t2⟩:=NI (r:=112::sg::ds) ha (λc hc=>by
  simp only[z12z,Option.some.injEq] at hc
  subst hc;decide)
 unfold readBody
 rw[t1,t2,if_neg hn]
 have:=Yw (Bv ah) 0 sg ds h1 h2 h3 h4
 simpa using this
theorem kQ(ah bh:List UInt8)(sg:UInt8)(ds:List UInt8)(ha:∀c ∈ ah,BA c=true)(hn:ah≠[])(hb:∀c ∈ bh,BA c=true)(hbn:bh≠[])(h1:sg=43\/sg=45)(h2:ds≠[])(h3:ds.length<=5)(h4:ds.all AV=true) :
  readBody (ah++46::(bh++112::sg::ds))=some (Bv (ah++bh),(if sg=45 then -(Ae ds:Int) else Ae ds)-4*bh.length):=by
 obtain⟨t1,t2⟩:=NI (r:=46::(bh++112::sg::ds)) ha (λc hc=>by
  simp only[z12z,Option.some.injEq] at hc
  subst hc;decide)
 obtain⟨s1,s2⟩:=NI (r:=112::sg::ds) hb (λc hc=>by
  simp only[z12z,Option.some.injEq] at hc
  subst hc;decide)
 unfold readBody
 rw[t1,t2,if_neg hn]
 simp only[s1,s2]
 rw[if_neg hbn]
 exact Yw _ _ sg ds h1 h2 h3 h4
theorem Tt(n:Nat):(BU n).all AV=true:=by
 rw[List.all_eq_true]
 intro c hc
 exact decide_eq_true (Pe n c hc)
theorem Vk(a:Nat)(h0:a≠0)(h1:a<9218868437227405312):(BU (BH a).natAbs).length<=4:=by
 obtain⟨-,-,f3,f4⟩:=Mt a h0 h1
 exact PI _ 4 (by omega) (by omega)
theorem gI(f:Nat)(h1:f<4503599627370496):∀c ∈ Bl 13 f,BA c=true:=by
 have e0:(2:Nat) ^ (52-4*13)=1:=by decide
 obtain⟨-,-,i3⟩:=Zu 13 f (Nat.le_refl _) h1 (by rw[e0];omega)
 exact λc hc=>decide_eq_true (i3 c hc)
theorem Vr(f:Nat)(h:f≠0):Bl 13 f≠[]:=by unfold Bl;rw[if_neg h];simp
theorem ZH(s:Int)(a:Nat)(h1:a<9218868437227405312):Ii s (CO a)=(s+a,0):=by
 unfold CO
 rw[if_neg (by omega)]
 by_cases h0:a=0
 ·subst h0
  rw[if_pos rfl]
  have e:readBody [48,112,43,48]=some (0,0):=by decide
  unfold Ii
  simp only[e]
  have:DV 0 0=some 0:=by unfold DV;rw[if_pos rfl]
  rw[this];rfl
 ·rw[if_neg h0]
  obtain⟨f1,-,-,-⟩:=Mt a h0 h1
  have hd:=Tt (BH a).natAbs
  have hl:=Vk a h0 h1
  have hne:=OL (BH a).natAbs
  have ex:=zX a h0 h1
  have pw:(if (if BH a<0 then (45:UInt8) else 43)=45 then -(Ae (BU (BH a).natAbs):Int) else Ae (BU (BH a).natAbs))=BH a:=by
   rw[QL]
   by_cases g:BH a<0
   ·rw[if_pos g,if_pos rfl];omega
   ·rw[if_neg g,if_neg (by decide)];omega
  have sgn:(if BH a<0 then (45:UInt8) else 43)=43\/(if BH a<0 then (45:UInt8) else 43)=45:=by
   by_cases g:BH a<0
   ·rw[if_pos g];exact Or.inr rfl
   ·rw[if_neg g];exact Or.inl rfl
  have hs:(if BH a<0 then [(45:UInt8)] else [43])=[if BH a<0 then 45 else 43]:=by split <;> rfl
  have h49:(49:UInt8)=Fq 1:=by decide
  by_cases hf:CJ a=0
  ·rw[if_pos hf,hs]
   rw[hf] at ex
   have e0:Bl 13 0=[]:=rfl
   rw[e0] at ex
   have b:=vU [49] _ _ (by intro c hc;simp at hc;subst hc;decide) (by simp) sgn hne (by omega) hd
   rw[pw] at b
   have et:[48,120,49]++[]++[112]++[if BH a<0 then (45:UInt8) else 43]++BU (BH a).natAbs=48::120::([49]++112::(if BH a<0 then (45:UInt8) else 43)::BU (BH a).natAbs):=by simp
   rw[et]
   unfold Ii
   simp only[b]
   rw[h49]
   have ex':DV (Bv [Fq 1]) (BH a)=some (a:Int):=by simpa using ex
   rw[ex']
  ·rw[if_neg hf,hs]
   have b:=kQ [49] (Bl 13 (CJ a)) _ _ (by intro c hc;simp at hc;subst hc;decide) (by simp) (gI _ f1) (Vr _ hf) sgn hne (by omega) hd
   rw[pw] at b
   have et:[48,120,49]++46::Bl 13 (CJ a)++[112]++[if BH a<0 then (45:UInt8) else 43]++BU (BH a).natAbs=48::120::([49]++46::(Bl 13 (CJ a)++112::(if BH a<0 then (45:UInt8) else 43)::BU (BH a).natAbs)):=by simp
   rw[et]
   unfold Ii
   simp only[b]
   rw[h49]
   have ex':DV (Bv ([Fq 1]++Bl 13 (CJ a))) (BH a-4*(Bl 13 (CJ a)).length)=some (a:Int):=ex
   rw[ex']
theorem Qq(a:Nat)(h1:a<=9218868437227405312):(CO a).length<=23:=by
 unfold CO
 by_cases hi:a=9218868437227405312
 ·rw[if_pos hi];decide
 ·rw[if_neg hi]
  by_cases h0:a=0
  ·rw[if_pos h0];decide
  ·rw[if_neg h0]
   have hl:=Vk a h0 (by omega)
   obtain⟨f1,-,-,-⟩:=Mt a h0 (by omega)
   obtain⟨g1,-⟩:=Tf (CJ a) f1
   have e1:(if CJ a=0 then [] else (46:UInt8)::Bl 13 (CJ a)).length<=14:=by
    split
    ·simp
    ·simp only[z3z];omega
   have e2:(if BH a<0 then [(45:UInt8)] else [43]).length=1:=by split <;> rfl
   simp only[List.length_append,e2,z3z,List.length_nil]
   omega
theorem QH(a:Nat):(CO a).head? = some 105\/(CO a).head? = some 48:=by
 unfold CO
 split
 ·exact Or.inl rfl
 ·split
  ·exact Or.inr rfl
  ·exact Or.inr rfl
theorem ZY(u:Int)(u0:0<=u)(u1:u<18446744073709551616):Du (Ec u)=(Oh u,0):=by
 unfold Ec Oh
 cases hn:IQ u with
 | true=>rw[if_pos rfl,if_pos rfl];decide
 | false=>
  simp only[z9z,if_false]
  have hm:u%9223372036854775808<=9218868437227405312:=by
   simp only[IQ,decide_eq_false_iff_not] at hn
   omega
  by_cases hs:9223372036854775808<=u
  ·rw[if_pos hs]
   generalize hA:(u-9223372036854775808).toNat=a
   have ha:a<=9218868437227405312:=by omega
   have hl:=Qq a ha
   by_cases hi:a=9218868437227405312
   ·have e:u=18442240474082181120:=by omega
    rw[e,hi];decide
   ·have h48:(CO a).head? = some 48:=by
     rcases QH a with h|h
     ·exfalso
      unfold CO at h
      rw[if_neg hi] at h
      split at h <;> cases h
     ·exact h
    unfold Du
    rw[if_neg (by simp only[z3z];omega),if_neg (by intro e;injection e with e1 e2;revert e1;decide),if_neg (by intro e;injection e with e1 e2;revert e1;decide),if_neg (by intro e;injection e with e1 e2;rw[e2] at h48;revert h48;decide)]
    show Ii 9223372036854775808 (CO a)=_
    rw[ZH _ a (by omega)]
    congr 1;omega
  ·rw[if_neg hs]
   generalize hA:u.toNat=a
   have ha:a<=9218868437227405312:=by omega
   have hl:=Qq a ha
   by_cases hi:a=9218868437227405312
   ·have e:u=9218868437227405312:=by omega
    rw[e,hi];decide
   ·have h48:(CO a).head? = some 48:=by
     rcases QH a with h|h
     ·exfalso
      unfold CO at h
      rw[if_neg hi] at h
      split at h <;> cases h
     ·exact h
    have r:=ZH 0 a (by omega)
    unfold Du
    rw[if_neg (by omega),if_neg (by intro e;rw[e] at h48;revert h48;decide),if_neg (by intro e;rw[e] at h48;revert h48;decide),if_neg (by intro e;rw[e] at h48;revert h48;decide)]
    cases hp:CO a with
    | nil=>rw[hp] at h48;cases h48
    | cons c l=>
     rw[hp] at h48 r
     simp only[z12z,Option.some.injEq] at h48
     subst h48
     show Ii 0 (48::l)=_
     rw[r]
     congr 1;omega
theorem AAy(i:Int)(i0:-9223372036854775808<=i)(i1:i<9223372036854775808):Dg (Dz i)=(i,0):=by
 have len:(BU i.natAbs).length<=19:=PI _ 19 (by omega) (by omega)
 have form:∀m:Bool,(m=true->i.natAbs≠0)->MQ m (BU i.natAbs)=true:=by
  intro m hm
  obtain⟨g1,g2,g3⟩:=uU i.natAbs
  unfold MQ
  have a1:(BU i.natAbs).isEmpty=false:=by simpa using g1
  have h48:(48:UInt8)=Gi 0:=by decide
  rw[a1,Tt]
  by_cases hz:i.natAbs=0
  ·have mf:m=false:=by
    cases m
    ·rfl
    ·exact absurd hz (hm rfl)
   rw[hz,mf,LU (by omega)];decide
  ·have hh:=ZV i.natAbs hz
   rw[<- h48] at hh
   have:((BU i.natAbs).head? == some 48)=false:=by simpa using hh
   rw[this];rfl
 unfold Dz
 by_cases hs:i<0
 ·rw[if_pos hs]
  unfold Dg
  rw[if_neg (by simp only[z3z];omega)]
  show FQ true (BU i.natAbs)=_
  unfold FQ
  rw[if_pos (form true (λ_=>by omega)),QL]
  rw[if_pos (by rw[if_pos rfl];omega),if_pos rfl]
  congr 1;omega
 ·rw[if_neg hs]
  unfold Dg
  rw[if_neg (by omega)]
  have hd:=Pe i.natAbs
  have key:FQ false (BU i.natAbs)=(i,0):=by
   unfold FQ
   rw[if_pos (form false (λh=>by cases h)),QL,if_pos (by rw[if_neg (by decide)];omega),if_neg (by decide)]
   congr 1;omega
  cases hp:BU i.natAbs with
  | nil=>exact absurd hp (OL _)
  | cons c l=>
   rw[hp] at hd key
   have hc:=hd c (by simp)
   have hne:c≠45:=by intro e;subst e;revert hc;decide
   split
   ·rename_i d e
    injection e with e1 e2
    exact absurd e1 hne
   ·exact key
theorem ABt(l:List UInt8)(k e:Int)(h:Dg l=(k,e)):-9223372036854775808<=k/\k<9223372036854775808:=by
 have go:∀ (m:Bool) (d:List UInt8),FQ m d=(k,e)->-9223372036854775808<=k/\k<9223372036854775808:=by
  intro m d hd
  unfold FQ at hd
  cases m
  ·simp only[z9z,if_false] at hd
   split at hd
   ·split at hd <;> (injection hd with e1 e2;omega)
   ·injection hd with e1 e2;omega
  ·simp only[if_true] at hd
   split at hd
   ·split at hd <;> (injection hd with e1 e2;omega)
   ·injection hd with e1 e2;omega
 unfold Dg at h
 split at h
 ·injection h with e1 e2;omega
 ·split at h
  ·exact go true _ h
  ·exact go false _ h
theorem Xe(i:Int)(i0:-9223372036854775808<=i)(i1:i<9223372036854775808):(Dz i).length<=20:=by
 have len:(BU i.natAbs).length<=19:=PI _ 19 (by omega) (by omega)
 unfold Dz
 split
 ·simp only[z3z];omega
 ·omega
theorem xJ(u:Int)(u0:0<=u)(u1:u<18446744073709551616):(Ec u).length<=24:=by
 unfold Ec
 cases hn:IQ u with
 | true=>rw[if_pos rfl];decide
 | false=>
  simp only[z9z,if_false]
  have hm:u%9223372036854775808<=9218868437227405312:=by
   simp only[IQ,decide_eq_false_iff_not] at hn
   omega
  split
  ·have:=Qq (u-9223372036854775808).toNat (by omega)
   simp only[z3z];omega
  ·have:=Qq u.toNat (by omega)
   omega
end Go.Proofs.YtjplieobnknnpaaGreatDoor.W

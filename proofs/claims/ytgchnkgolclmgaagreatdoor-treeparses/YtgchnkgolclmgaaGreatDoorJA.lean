import Derived.Laws.FloatArith
import Derived.Deep.Draws
import Derived.Laws.NewFold
import Derived.Test.YtgchnkgolclmgaaGreatDoorProg
import Derived.WalkKit
import Derived.WalkLawsBesides
import Derived.Laws.Externs
import Derived.Laws.BitsAllLaws
import Derived.KernelRfl
import Derived.Deep.QuietTactic
import Derived.BigQuiet
open List renaming length_cons → dR
open Nat renaming mul_assoc → aH, pow_add → aL, two_pow_pos → aY, mul_comm → ay, eq_of_mul_eq_mul_right → bO, pow_succ → bY, mul_one → dI, pow_le_pow_right → dQ, zero_add → eU, pow_zero → gI, mul_lt_mul_of_pos_right → gL, mul_le_mul_right → gy
set_option maxRecDepth 1000000
set_option maxHeartbeats 8000000
namespace Go.Proofs.YtgchnkgolclmgaaGreatDoor.W
open Ieee
theorem UL:Ieee.double.signWeight=9223372036854775808:=by decide
theorem XQ:Ieee.double.binade=4503599627370496:=by decide
theorem XP:Ieee.double.infRung=9218868437227405312:=by decide
theorem Px:Ieee.double.leastPlace = -1074:=by decide
theorem Fv(x:Nat):Ieee.double.read x =
  if x%9223372036854775808<4503599627370496 then .number (x/9223372036854775808%2==1) (x%9223372036854775808) (-1074)
  else if x%9223372036854775808<9218868437227405312 then
   .number (x/9223372036854775808%2==1) (4503599627370496+x%9223372036854775808%4503599627370496) (-1074+(x%9223372036854775808/4503599627370496-1:Nat))
  else if x%9223372036854775808=9218868437227405312 then .infinity (x/9223372036854775808%2==1)
  else .nan (x/9223372036854775808%2==1) (x%9223372036854775808-9218868437227405312):=by
 unfold Format.read
 simp only[UL,XQ,XP,Px]
def UO(op:BinOp)(a b:Int):Int:=match floatBits op .f64 a.toNat b.toNat with|some r=>(r:Int)|none=>9221120237041090560
open Go.ChangeShapes Go.WideShapes Go.RowKit
theorem jC{a b:Bool}(h:a=b):Ending.returned (.bool a)=.returned (.bool b):=by rw[h]
theorem Fq{k:IntKind}{a b:Int}(h:a=b):Ending.returned (.int k a)=.returned (.int k b):=by rw[h]
theorem aZ{k l:IntKind}{a a' b b':Int}(h:a=a')(g:b=b'):Ending.returned (.tuple #[.int k a,.int l b])=.returned (.tuple #[.int k a',.int l b']):=by rw[h,g]
theorem hid{p:Prop}(h:p):Hid p:=h
theorem CP{x:Nat}{s:Bool}{m:Nat}{p:Int}(hx:x<18446744073709551616)(h:Ieee.double.read x=.number s m p) :
  m<9007199254740992/\-1074<=p/\p<=971/\(4503599627370496<=m\/p = -1074)/\x=(if s then 9223372036854775808 else 0)+((p+1074).toNat*4503599627370496+m):=by
 rw[Fv] at h
 have hs:(if (x/9223372036854775808%2==1)=true then 9223372036854775808 else 0)=x/9223372036854775808*9223372036854775808:=by
  by_cases g:x/9223372036854775808%2=1
  ·simp[g];omega
  ·simp[g];omega
 split at h
 ·cases h
  refine⟨by omega,by omega,by omega,Or.inr rfl,?_⟩
  rw[hs];omega
 ·split at h
  ·cases h
   refine⟨by omega,by omega,by omega,Or.inl (by omega),?_⟩
   rw[hs];omega
  ·split at h <;> cases h
def Wh(k:Nat):Nat:=2 ^ k
def big:Nat:=Wh 2200
def key:Datum->Int
 | .number s m p=>signed s m (p+1074).toNat
 | .infinity s=>if s then -(big:Int) else (big:Int)
 | .nan _ _=>0
theorem KW(a b:Datum):a.sum b=b.sum a:=by
 cases a with
 | nan s t=>cases b <;> rfl
 | infinity s=>
  cases b with
  | nan s t=>rfl
  | infinity t=>cases s <;> cases t <;> rfl
  | number t n j=>rfl
 | number s m i=>
  cases b with
  | nan s t=>rfl
  | infinity t=>rfl
  | number t n j=>
   simp only[Datum.sum]
   rw[show min j i=min i j from by omega,Int.add_comm (signed s m _),Bool.and_comm s t]
theorem zw(a b:Datum):a.product b=b.product a:=by
 cases a with
 | nan s t=>cases b <;> rfl
 | infinity s=>
  cases b with
  | nan s t=>rfl
  | infinity t=>simp only[Datum.product];rw[Bool.xor_comm]
  | number t n j=>rfl
 | number s m i=>
  cases b with
  | nan s t=>rfl
  | infinity t=>rfl
  | number t n j=>
   simp only[Datum.product]
   rw[Bool.xor_comm,ay,Int.add_comm]
theorem add_comm(a b:Int):UO .add a b=UO .add b a:=by
 have e:floatBits .add .f64 a.toNat b.toNat=floatBits .add .f64 b.toNat a.toNat:=by
  show ((Ieee.double.read a.toNat).sum (Ieee.double.read b.toNat)).map Ieee.double.write=((Ieee.double.read b.toNat).sum (Ieee.double.read a.toNat)).map Ieee.double.write
  rw[KW]
 unfold UO;rw[e]
theorem mul_comm(a b:Int):UO .mul a b=UO .mul b a:=by
 have e:floatBits .mul .f64 a.toNat b.toNat=floatBits .mul .f64 b.toNat a.toNat:=by
  show ((Ieee.double.read a.toNat).product (Ieee.double.read b.toNat)).map Ieee.double.write=((Ieee.double.read b.toNat).product (Ieee.double.read a.toNat)).map Ieee.double.write
  rw[zw]
 unfold UO;rw[e]
def Eo(a:Int):Int:=key (Ieee.double.read a.toNat)
def yA(a:Int):Bool:=decide (a%9223372036854775808<9218868437227405312)
theorem Me(a:Int)(h:yA a=true):∃s m p,Ieee.double.read a.toNat=.number s m p:=by
 rw[Fv]
 simp only[yA,decide_eq_true_eq] at h
 split
 ·exact⟨_,_,_,rfl⟩
 ·rw[if_pos (by omega)];exact⟨_,_,_,rfl⟩
theorem Ke(s:Bool)(m k:Nat):signed s m k=if s then -((m*2 ^ k:Nat):Int) else ((m*2 ^ k:Nat):Int):=by
 unfold signed;rw[Nat.shiftLeft_eq]
theorem parts(a:Int)(h0:0<=a)(h1:a<9223372036854775808)(hf:yA a=true) :
  ∃m P:Nat,a=((P*4503599627370496+m:Nat):Int)/\m<9007199254740992/\(4503599627370496<=m\/P=0)/\P<=2045/\Eo a=((m*2 ^ P:Nat):Int):=by
 obtain⟨s,m,p,e⟩:=Me a hf
 obtain⟨q1,q2,q3,q4,q5⟩:=CP (by omega) e
 have hs:s=false:=by
  cases s
  ·rfl
  ·simp only[if_true] at q5;omega
 subst hs
 refine⟨m,(p+1074).toNat,?_,q1,by omega,by omega,?_⟩
 ·simp only[Bool.false_eq_true,if_false] at q5;omega
 ·unfold Eo
  rw[e]
  simp only[key,Ke,Bool.false_eq_true,if_false]
theorem rT(m P:Nat)(h1:m<9007199254740992)(h2:4503599627370496<=m\/P=0)(h3:P<=2045) :
  yA ((P*4503599627370496+m:Nat):Int)=true/\((P*4503599627370496+m:Nat):Int)<9223372036854775808/\Eo ((P*4503599627370496+m:Nat):Int)=((m*2 ^ P:Nat):Int):=by
 have hb:P*4503599627370496+m<9218868437227405312:=by omega
 have hf:yA ((P*4503599627370496+m:Nat):Int)=true:=by
  simp only[yA,decide_eq_true_eq];omega
 refine⟨hf,by omega,?_⟩
 obtain⟨m',P',e,e1,e2,e3,e4⟩:=parts _ (by omega) (by omega) hf
 have hh:P=P'/\m=m':=by
  have e':P*4503599627370496+m=P'*4503599627370496+m':=by omega
  omega
 rw[e4,hh.1,hh.2]
theorem Ib{m P m' P':Nat}(h1:m<9007199254740992)(h1':m'<9007199254740992)(h2:4503599627370496<=m\/P=0)(h2':4503599627370496<=m'\/P'=0)(h:m*2 ^ P=m'*2 ^ P'):m=m'/\P=P':=by
 have go:∀ {m P m' P':Nat},m<9007199254740992->(4503599627370496<=m'\/P'=0)->m*2 ^ P=m'*2 ^ P'->¬P<P':=by
  intro m P m' P' k1 k2 k hlt
  have e:2 ^ P'=2 ^ (P'-P)*2 ^ P:=by rw[<- aL];congr 1;omega
  rw[e,<- aH] at k
  have k3:m=m'*2 ^ (P'-P):=bO (aY P) k
  have k4:2 ^ 1<=2 ^ (P'-P):=dQ (by omega) (by omega)
  have k5:m'*2<=m'*2 ^ (P'-P):=Nat.mul_le_mul_left _ (by omega)
  omega
 have a:=go h1 h2' h
 have b:=go h1' h2 h.symm
 have e:P=P':=by omega
 subst e
 exact⟨bO (aY P) h,rfl⟩
theorem key_inj(a b:Int)(a0:0<=a)(a1:a<9223372036854775808)(b0:0<=b)(b1:b<9223372036854775808)(fa:yA a=true)(fb:yA b=true)(h:Eo a=Eo b):a=b:=by
 obtain⟨m,P,e,h1,h2,h3,h4⟩:=parts a a0 a1 fa
 obtain⟨m',P',e',h1',h2',h3',h4'⟩:=parts b b0 b1 fb
 rw[h4,h4'] at h
 have h':m*2 ^ P=m'*2 ^ P':=by exact_mod_cast h
 obtain⟨rfl,rfl⟩:=Ib h1 h1' h2 h2' h'
 omega
def nN(a:Int)(N:Nat)(low:Int):Prop:=
 0<=a/\a<9223372036854775808/\yA a=true/\∃V:Nat,Eo a=V/\V*2 ^ (-(low+1074)).toNat=N*2 ^ (low+1074).toNat
theorem vU{a b:Int}{N:Nat}{low:Int}(ha:nN a N low)(hb:nN b N low):a=b:=by
 obtain⟨a0,a1,fa,V,ka,va⟩:=ha
 obtain⟨b0,b1,fb,U,kb,vb⟩:=hb
 have:V=U:=bO (aY _) (va.trans vb.symm)
 exact key_inj a b a0 a1 b0 b1 fa fb (by rw[ka,kb,this])
theorem sw{a:Int}{N:Nat}{low:Int}(k:Nat):nN a (N*2 ^ k) low↔nN a N (low+k):=by
 unfold nN
 constructor
 ·rintro⟨a0,a1,fa,V,ka,va⟩
  refine⟨a0,a1,fa,V,ka,?_⟩
  have e1:(-(low+1074)).toNat+(low+k+1074).toNat=(-(low+k+1074)).toNat+(k+(low+1074).toNat):=by omega
  apply bO (aY ((-(low+1074)).toNat))
  have:=congrArg (· * 2 ^ (-(low+k+1074)).toNat) va
  calc V*2 ^ (-(low + ↑k+1074)).toNat*2 ^ (-(low+1074)).toNat=V*2 ^ (-(low+1074)).toNat*2 ^ (-(low+k+1074)).toNat:=by rw[aH,aH,ay (2 ^ _)]
   _=N*2 ^ k*2 ^ (low+1074).toNat*2 ^ (-(low+k+1074)).toNat:=this
   _=N*2 ^ (low + ↑k+1074).toNat*2 ^ (-(low+1074)).toNat:=by
    rw[aH,aH,aH,<- aL,<- aL,<- aL]
    congr 2;omega
 ·rintro⟨a0,a1,fa,V,ka,va⟩
  refine⟨a0,a1,fa,V,ka,?_⟩
  apply bO (aY ((-(low+k+1074)).toNat))
  have:=congrArg (· * 2 ^ (-(low+1074)).toNat) va
  calc V*2 ^ (-(low+1074)).toNat*2 ^ (-(low + ↑k+1074)).toNat=V*2 ^ (-(low+k+1074)).toNat*2 ^ (-(low+1074)).toNat:=by rw[aH,aH,ay (2 ^ _)]
   _=N*2 ^ (low+k+1074).toNat*2 ^ (-(low+1074)).toNat:=this
   _=N*2 ^ k*2 ^ (low+1074).toNat*2 ^ (-(low + ↑k+1074)).toNat:=by
    rw[aH,aH,aH,<- aL,<- aL,<- aL]
    congr 2;omega
theorem lC{n:Nat}(hn:n≠0):2 ^ n.log2<=n/\n<2 ^ (n.log2+1):=⟨Nat.log2_self_le hn,Nat.lt_log2_self⟩
theorem KE(n:Nat)(low:Int)(hn:n≠0)(h53:n.log2<=52)(hlow:-1074<=low)(hhigh:low+n.log2<=1023) :
  (low+n.log2 < -1022->nN ((n*2 ^ (low+1074).toNat:Nat):Int) n low) /\
  (-1022<=low+n.log2->4503599627370496<=n*2 ^ (52-n.log2)/\n*2 ^ (52-n.log2)<9007199254740992 /\
   ((-1074<=low+n.log2-52)->nN (((low+n.log2+1023).toNat*4503599627370496+(n*2 ^ (52-n.log2)-4503599627370496):Nat):Int) n low)):=by
 obtain⟨l1,l2⟩:=lC hn
 have z:(-(low+1074)).toNat=0:=by omega
 constructor
 ·intro h
  have b:n*2 ^ (low+1074).toNat<4503599627370496:=by
   have b1:n*2 ^ (low+1074).toNat<2 ^ (n.log2+1)*2 ^ (low+1074).toNat:=gL l2 (aY _)
   rw[<- aL] at b1
   have b2:2 ^ (n.log2+1+(low+1074).toNat)<=2 ^ 52:=dQ (by omega) (by omega)
   omega
  obtain⟨f,g,k⟩:=rT (n*2 ^ (low+1074).toNat) 0 (by omega) (Or.inr rfl) (by omega)
  rw[Nat.zero_mul,eU] at f g k
  exact⟨by omega,g,f,_,k,by rw[z,gI,dI,dI]⟩
 ·intro h
  have b1:2 ^ n.log2*2 ^ (52-n.log2)<=n*2 ^ (52-n.log2):=gy _ l1
  have b2:n*2 ^ (52-n.log2)<2 ^ (n.log2+1)*2 ^ (52-n.log2):=gL l2 (aY _)
  rw[<- aL,show n.log2+(52-n.log2)=52 by omega] at b1
  rw[<- aL,show n.log2+1+(52-n.log2)=53 by omega] at b2
  have p52:(2:Nat) ^ 52=4503599627370496:=by decide
  have p53:(2:Nat) ^ 53=9007199254740992:=by decide
  rw[p52] at b1
  rw[p53] at b2
  have c1:=b1
  have c2:=b2
  refine⟨c1,c2,λhl=>?_⟩
  obtain⟨f,g,k⟩:=rT (n*2 ^ (52-n.log2)) (low+n.log2+1022).toNat c2 (Or.inl c1) (by omega)
  have e:(low+n.log2+1023).toNat*4503599627370496+(n*2 ^ (52-n.log2)-4503599627370496)=(low+n.log2+1022).toNat*4503599627370496+n*2 ^ (52-n.log2):=by omega
  rw[e]
  refine⟨by omega,g,f,_,k,?_⟩
  have e3:52-n.log2+(low+n.log2+1022).toNat=(low+1074).toNat:=by omega
  rw[z,gI,dI,aH,<- aL,e3]
theorem KC(n:Nat)(low:Int)(hn:n%2=1)(h:52<n.log2\/low < -1074\/1023<low+n.log2)(a:Int):¬nN a n low:=by
 rintro⟨a0,a1,fa,V,ka,va⟩
 obtain⟨m,P,e,h1,h2,h3,h4⟩:=parts a a0 a1 fa
 have hV:V=m*2 ^ P:=by rw[ka] at h4;exact_mod_cast h4
 have hn0:n≠0:=by omega
 obtain⟨l1,l2⟩:=lC hn0
 subst hV
 by_cases hl:low < -1074
 ·have z:(low+1074).toNat=0:=by omega
  rw[z,gI,dI] at va
  have:(2:Nat) ^ (-(low+1074)).toNat=2 ^ ((-(low+1074)).toNat-1)*2:=by rw[<- bY];congr 1;omega
  rw[this,<- aH] at va
  omega
 ·have z:(-(low+1074)).toNat=0:=by omega
  rw[z,gI,dI] at va
  rcases h with h|h|h
  ·-- an odd number times a power of two: the other one's factor divides
   have hP:P<=(low+1074).toNat:=by
    false_or_by_contra
    rename_i g
    have e2:(2:Nat) ^ P=2 ^ (P-(low+1074).toNat-1)*2*2 ^ (low+1074).toNat:=by rw[<- bY,<- aL];congr 1;omega
    rw[e2,<- aH] at va
    have:=bO (aY _) va
    rw[<- aH] at this
    omega
   have e2:(2:Nat) ^ (low+1074).toNat=2 ^ ((low+1074).toNat-P)*2 ^ P:=by rw[<- aL];congr 1;omega
   rw[e2,<- aH] at va
   have e3:=bO (aY _) va
   have e4:n*1<=n*2 ^ ((low+1074).toNat-P):=Nat.mul_le_mul_left _ (aY _)
   have e5:2 ^ 53<=2 ^ n.log2:=dQ (by omega) (by omega)
   have e6:(2:Nat) ^ 53=9007199254740992:=by decide
   omega
  ·omega
  ·have p53:(2:Nat) ^ 53=9007199254740992:=by decide
   have b0:m<2 ^ 53:=by omega
   have b1:m*2 ^ P<2 ^ 53*2 ^ P:=gL b0 (aY _)
   have b2:2 ^ n.log2*2 ^ (low+1074).toNat<=n*2 ^ (low+1074).toNat:=gy _ l1
   rw[<- aL] at b1 b2
   have b3:2 ^ (53+P)<=2 ^ (n.log2+(low+1074).toNat):=dQ (by omega) (by omega)
   omega
def Dj(d:Nat):UInt8:=UInt8.ofNat (48+d)
theorem J7(d:Nat)(h:d<10):(Dj d).toNat=48+d:=by
 unfold Dj
 rw[UInt8.toNat_ofNat']
 omega
def xD(n:Nat):List UInt8:=if n<10 then [Dj n] else xD (n/10)++[Dj (n%10)]
 termination_by n
 decreasing_by omega
theorem rA{n:Nat}(h:n<10):xD n=[Dj n]:=by rw[xD,if_pos h]
theorem J8{n:Nat}(h:¬n<10):xD n=xD (n/10)++[Dj (n%10)]:=by rw[xD,if_neg h]
def au(l:List UInt8):Nat:=l.foldl (λa c=>10*a+(c.toNat-48)) 0
theorem tF(l:List UInt8)(c:UInt8):au (l++[c])=10*au l+(c.toNat-48):=by simp[au,List.foldl_append]
def goodD(l:List UInt8):Prop:=l≠[]/\(∀c ∈ l,48<=c.toNat/\c.toNat<=57)/\(l.head? = some (Dj 0)->l.length=1)
theorem Q8(l:List UInt8)(a:Nat):l.foldl (λa c=>10*a+(c.toNat-48)) a=a*10 ^ l.length+au l:=by
 induction l generalizing a with
 | nil=>simp[au]
 | cons c l ih=>
  have e:au (c::l)=l.foldl (λa c=>10*a+(c.toNat-48)) (10*0+(c.toNat-48)):=rfl
  rw[List.foldl_cons,ih,e,ih,dR,bY,Nat.add_mul,Nat.mul_zero,eU,Nat.add_assoc]
  congr 1
  rw[ay 10 a,aH,ay 10]
theorem Gw(c:UInt8)(l:List UInt8):au (c::l)=(c.toNat-48)*10 ^ l.length+au l:=by
 have e:au (c::l)=l.foldl (λa c=>10*a+(c.toNat-48)) (10*0+(c.toNat-48)):=rfl
 rw[e,Q8,Nat.mul_zero,eU]
theorem zY(l:List UInt8)(h:∀c ∈ l,48<=c.toNat/\c.toNat<=57):au l<10 ^ l.length:=by
 induction l with
 | nil=>simp[au]
 | cons c l ih=>
  rw[Gw,dR,bY]
  have h1:=h c (by simp)
  have h2:=ih (λx hx=>h x (by simp[hx]))
  have h3:(c.toNat-48)*10 ^ l.length<=9*10 ^ l.length:=gy _ (by omega)
  omega
theorem Mj(c:UInt8)(h:48<=c.toNat/\c.toNat<=57):Dj (c.toNat-48)=c:=by
 apply UInt8.toNat_inj.1
 rw[J7 _ (by omega)]
 omega
theorem PW(l:List UInt8)(h:goodD l):xD (au l)=l:=by
 generalize hk:l.length=k
 induction k using Nat.strongRecOn generalizing l with
 | _ k ih=>
  obtain⟨h1,h2,h3⟩:=h
  have e:=List.dropLast_concat_getLast h1
  have hc:=h2 _ (List.getLast_mem h1)
  generalize l.getLast h1=c at e hc
  generalize hl':l.dropLast=l' at e
  subst e
  by_cases hn:l'=[]
  ·subst hn
   have e1:au ([]++[c])=c.toNat-48:=by simp[au]
   rw[e1,rA (by omega),Mj c hc]
   rfl
  ·have hh:(l'++[c]).head? = l'.head?:=by
    cases l' with
    | nil=>exact absurd rfl hn
    | cons a t=>rfl
   have hne:l'.head? ≠ some (Dj 0):=by
    intro g
    have:=h3 (by rw[hh];exact g)
    have:0<l'.length:=List.length_pos_iff.2 hn
    simp only[List.length_append,dR,List.length_nil] at *
    omega
   have g':goodD l':=⟨hn,λx hx=>h2 x (by simp[hx]),λg=>absurd g hne⟩
   have i':=ih l'.length (by rw[<- hk];simp) l' g' rfl
   have hv:au l'≠0:=by
    intro z
    rw[z,rA (by omega)] at i'
    rw[<- i'] at hne
    exact hne rfl
   rw[tF,J8 (by omega)]
   have d1:(10*au l'+(c.toNat-48))/10=au l':=by omega
   have d2:(10*au l'+(c.toNat-48))%10=c.toNat-48:=by omega
   rw[d1,d2,i',Mj c hc]
def sJ(d:Nat):UInt8:=if d<10 then UInt8.ofNat (48+d) else UInt8.ofNat (87+d)
def bT(c:UInt8):Int:=if 48<=c.toNat/\c.toNat<=57 then c.toNat-48 else if 97<=c.toNat/\c.toNat<=102 then c.toNat-87 else -1
theorem FC(d:Nat)(h:d<16):(sJ d).toNat=if d<10 then 48+d else 87+d:=by
 unfold sJ
 split
 ·rw[UInt8.toNat_ofNat'];omega
 ·rw[UInt8.toNat_ofNat'];omega
theorem JN(d:Nat)(h:d<16):bT (sJ d)=d:=by
 unfold bT
 rw[FC d h]
 by_cases g:d<10
 ·rw[if_pos g,if_pos (by omega)];omega
 ·rw[if_neg g,if_neg (by omega),if_pos (by omega)];omega
theorem fE(c:UInt8):-1<=bT c/\bT c<16:=by unfold bT;split <;> (try split) <;> omega
def iI(l:List UInt8):Nat:=l.foldl (λa c=>16*a+(bT c).toNat) 0
theorem Vx(l:List UInt8)(a:Nat):l.foldl (λa c=>16*a+(bT c).toNat) a=a*16 ^ l.length+iI l:=by
 induction l generalizing a with
 | nil=>simp[iI]
 | cons c l ih=>
  have e:iI (c::l)=l.foldl (λa c=>16*a+(bT c).toNat) (16*0+(bT c).toNat):=rfl
  rw[List.foldl_cons,ih,e,ih,dR,bY,Nat.add_mul,Nat.mul_zero,eU,Nat.add_assoc]
  congr 1
  rw[ay 16 a,aH,ay 16]
theorem Bb(l m:List UInt8):iI (l++m)=iI l*16 ^ m.length+iI m:=by
 unfold iI
 rw[List.foldl_append,Vx]
 rfl
theorem pW(l:List UInt8)(c:UInt8):iI (l++[c])=16*iI l+(bT c).toNat:=by
 rw[Bb]
 simp[iI]
 omega
theorem LW(k:Nat):16 ^ k=2 ^ (4*k):=by rw[Nat.pow_mul]
def fH(n:Nat):Nat:=if n=0 then 0 else if n%2=0 then fH (n/2)+1 else 0
 termination_by n
 decreasing_by omega
def dX(n:Nat):Nat:=if n=0 then 0 else if n%2=0 then dX (n/2) else n
 termination_by n
 decreasing_by omega
theorem rX(n:Nat)(h:n≠0):dX n%2=1/\n=dX n*2 ^ fH n:=by
 induction n using Nat.strongRecOn with
 | _ n ih=>
  rw[dX,fH]
  rw[if_neg h,if_neg h]
  by_cases g:n%2=0
  ·rw[if_pos g,if_pos g]
   obtain⟨i1,i2⟩:=ih (n/2) (by omega) (by omega)
   refine⟨i1,?_⟩
   rw[bY,<- aH,<- i2]
   omega
  ·rw[if_neg g,if_neg g]
   exact⟨by omega,by simp⟩
def bH(N:Nat)(low:Int):Option Int:=
 if N=0 then some 0
 else if 52<(dX N).log2\/low+fH N < -1074\/1023<low+fH N+(dX N).log2 then none
 else if low+fH N+(dX N).log2 < -1022 then some ((dX N*2 ^ (low+fH N+1074).toNat:Nat):Int)
 else some (((low+fH N+(dX N).log2+1023).toNat*4503599627370496+(dX N*2 ^ (52-(dX N).log2)-4503599627370496):Nat):Int)
theorem val_zero(a:Int)(low:Int):nN a 0 low↔a=0:=by
 constructor
 ·rintro⟨a0,a1,fa,V,ka,va⟩
  rw[Nat.zero_mul] at va
  have hV:V=0:=by
   rcases Nat.mul_eq_zero.1 va with h|h
   ·exact h
   ·exact absurd h (Nat.ne_of_gt (aY _))
  subst hV
  obtain⟨f,g,k⟩:=rT 0 0 (by omega) (Or.inr rfl) (by omega)
  refine key_inj a 0 a0 a1 (by omega) (by omega) fa (by decide) ?_
  rw[ka]
  have k':Eo ((0*4503599627370496+0:Nat):Int)=0:=by rw[k];simp
  exact k'.symm
 ·rintro rfl
  obtain⟨f,g,k⟩:=rT 0 0 (by omega) (Or.inr rfl) (by omega)
  exact⟨by omega,by omega,by decide,0,k.trans (by simp),by simp⟩
theorem nJ(N:Nat)(low:Int)(a:Int):bH N low=some a↔nN a N low:=by
 unfold bH
 by_cases h0:N=0
 ·subst h0
  rw[if_pos rfl,val_zero]
  simp only[Option.some.injEq]
  exact eq_comm
 ·rw[if_neg h0]
  obtain⟨o1,o2⟩:=rX N h0
  have sh:nN a N low↔nN a (dX N) (low+fH N):=by
   have:=sw (a:=a) (N:=dX N) (low:=low) (fH N)
   rw[<- o2] at this
   exact this
  rw[sh]
  have on:dX N≠0:=by omega
  by_cases h1:52<(dX N).log2\/low+fH N < -1074\/1023<low+fH N+(dX N).log2
  ·rw[if_pos h1]
   exact⟨(λh=>by cases h),λh=>absurd h (KC _ _ o1 h1 a)⟩
  ·rw[if_neg h1]
   obtain⟨m1,m2⟩:=KE (dX N) (low+fH N) on (by omega) (by omega) (by omega)
   by_cases h2:low+fH N+(dX N).log2 < -1022
   ·rw[if_pos h2]
    have v:=m1 h2
    constructor
    ·intro h
     injection h with h
     rw[<- h];exact v
    ·intro h;rw[vU v h]
   ·rw[if_neg h2]
    obtain⟨c1,c2,c3⟩:=m2 (by omega)
    have v:=c3 (by omega)
    constructor
    ·intro h
     injection h with h
     rw[<- h];exact v
    ·intro h;rw[vU v h]
theorem FK(N:Nat)(low:Int):bH N low=none↔∀a,¬nN a N low:=by
 constructor
 ·intro h a ha
  rw[(nJ N low a).2 ha] at h
  cases h
 ·intro h
  cases e:bH N low with
  | none=>rfl
  | some a=>exact absurd ((nJ N low a).1 e) (h a)
theorem uU(N:Nat)(low:Int)(k:Nat):bH (N*2 ^ k) low=bH N (low+k):=by
 cases e:bH N (low+k) with
 | some a=>rw[nJ];exact(sw k).2 ((nJ _ _ _).1 e)
 | none=>
  rw[FK] at e ⊢
  exact λa h=>e a ((sw k).1 h)
theorem DT(N:Nat)(low:Int)(a:Int)(h:bH N low=some a):0<=a/\a<9218868437227405312:=by
 obtain⟨a0,a1,fa,-⟩:=(nJ N low a).1 h
 simp only[yA,decide_eq_true_eq] at fa
 omega
def dY(c:UInt8):Bool:=decide (0<=bT c)
def bI(c:UInt8):Bool:=decide (48<=c.toNat/\c.toNat<=57)
def Ev(i:Int):List UInt8:=if i<0 then 45::xD i.natAbs else xD i.natAbs
def qN(m:Bool)(d:List UInt8):Bool:=!d.isEmpty&&d.all bI && !(d.head? == some 48&&(decide (1<d.length)||m))
def gN(m:Bool)(d:List UInt8):Int × Int:=
 if qN m d=true then
  (if (if m=true then au d<=9223372036854775808 else au d<9223372036854775808) then ((if m=true then -(au d:Int) else au d),0) else (0,13))
 else (0,20)
def kW(l:List UInt8):Int × Int:=
 if 64<l.length then (0,2) else match l with
 | 45::d=>gN true d
 | d=>gN false d
def jF(N:Nat)(behind:Nat)(r:List UInt8):Option (Nat × Int):=
 match r with
 | 112::sg::ds=>
  if (sg=43\/sg=45)/\ds≠[]/\ds.length<=5/\ds.all bI=true then some (N,(if sg=45 then -(au ds:Int) else au ds)-4*behind) else none
 | _=>none
def readBody(r:List UInt8):Option (Nat × Int):=
 if r.takeWhile dY=[] then none else
 match r.dropWhile dY with
 | 46::r1=>if r1.takeWhile dY=[] then none else jF (iI (r.takeWhile dY++r1.takeWhile dY)) (r1.takeWhile dY).length (r1.dropWhile dY)
 | r1=>jF (iI (r.takeWhile dY)) 0 r1
def Fx(s:Int)(l:List UInt8):Int × Int:=
 match l with
 | 48::120::r=>match readBody r with
  | none=>(0,20)
  | some (N,low)=>match bH N low with
   | none=>(0,21)
   | some a=>(s+a,0)
 | _=>(0,20)
def uy:List UInt8:=[110,97,110]
def nI:List UInt8:=[105,110,102]
def iQ(l:List UInt8):Int × Int:=
 if 64<l.length then (0,2) else if l=uy then (9221120237041090560,0) else if l=nI then (9218868437227405312,0) else if l=45::nI then (18442240474082181120,0) else match l with
 | 45::b=>Fx 9223372036854775808 b
 | b=>Fx 0 b
theorem mI{p:UInt8->Bool}{l r:List UInt8}(h:∀c ∈ l,p c=true)(hr:∀c,r.head? = some c->p c=false):(l++r).takeWhile p=l/\(l++r).dropWhile p=r:=by
 induction l with
 | nil=>
  cases r with
  | nil=>exact⟨rfl,rfl⟩
  | cons c r=>
   have:=hr c rfl
   exact⟨by simp[this],by simp[this]⟩
 | cons c l ih=>
  have hc:=h c (by simp)
  obtain⟨i1,i2⟩:=ih (λx hx=>h x (by simp[hx]))
  exact⟨by simp[hc,i1],by simp[hc,i2]⟩
theorem JW{m:Bool}{d:List UInt8}(h:qN m d=true):goodD d/\(m=true->au d≠0):=by
 unfold qN at h
 rw[Bool.and_eq_true,Bool.and_eq_true] at h
 obtain⟨⟨h1,h2⟩,h3⟩:=h
 have h1':d≠[]:=by simpa using h1
 have h48:(48:UInt8)=Dj 0:=by decide
 have hd:∀c ∈ d,48<=c.toNat/\c.toNat<=57:=by
  intro c hc
  exact of_decide_eq_true (List.all_eq_true.1 h2 c hc)
 have g:goodD d:=by
  refine⟨h1',hd,λhh=>?_⟩
  rw[<- h48] at hh
  have e:(d.head? == some 48)=true:=by rw[hh];rfl
  rw[e] at h3
  have:¬1<d.length:=by
   intro hl
   rw[decide_eq_true hl] at h3
   cases h3
  have:0<d.length:=List.length_pos_iff.2 h1'
  omega
 refine⟨g,λhm hz=>?_⟩
 have e:=PW d g
 rw[hz,rA (by omega)] at e
 rw[<- e,hm] at h3
 revert h3
 decide
end Go.Proofs.YtgchnkgolclmgaaGreatDoor.W

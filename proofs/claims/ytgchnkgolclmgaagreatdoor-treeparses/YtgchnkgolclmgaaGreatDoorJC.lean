import Derived.Test.YtgchnkgolclmgaaGreatDoorJA
import Derived.Lib.ItoaNum
import Derived.Lib.TrailingZeros
import Derived.Lib.Bytealg
open List renaming eq_nil_of_length_eq_zero → eU
open Nat renaming pow_add → aH, pow_succ → aL, mul_comm → aY, mul_le_mul_right → ay, mul_assoc → bO, two_pow_pos → bY, log2_eq_iff → dI, strongRecOn → dQ
set_option maxRecDepth 1000000
set_option maxHeartbeats 8000000
namespace Go.Proofs.YtgchnkgolclmgaaGreatDoor.W
def iC(c:UInt8):Bool:=c==32||c==9||c==10
def iE(c:UInt8):Bool:=c != 10
def dO(c:UInt8):Bool:=decide (97<=c.toNat/\c.toNat<=122)||bI c||c==95
def iN(c:UInt8):Bool:=c==46||dY c
def runN(p:UInt8->Bool)(l:List UInt8):Nat:=(l.takeWhile p).length
structure Tk where
 kind:Int
 text:ByteArray
 int:Int
 bits:Int
structure Pc where
 t:Tk
 size:Nat
 code:Int
def bytesOf(l:List UInt8):ByteArray:=⟨l.toArray⟩
def gX:Tk:=⟨0,⟨#[]⟩,0,0⟩
def lJ:Pc:=⟨gX,0,0⟩
def gG(n:Nat)(c:Int):Pc:=⟨gX,n,c⟩
def kN(t:Tk)(n:Nat):Pc:=⟨t,n,0⟩
def xA(r:List UInt8):Nat:=if r.head? = some 35 then runN iE r else runN iC r
def sK(r:List UInt8):Pc:=⟨gX,xA r,0⟩
def words:List (List UInt8):=[[102,110],[108,101,116],[105,102],[101,108,115,101],[119,104,105,108,101],[102,111,114],[105,110],[98,114,101,97,107],[99,111,110,116,105,110,117,101],[114,101,116,117,114,110],[111,117,116],[97,110,100],[111,114],[110,111,116],[116,114,117,101],[102,97,108,115,101],[110,105,108]]
def kD(l:List UInt8):Tk:=if l=nI then ⟨5,⟨#[]⟩,0,9218868437227405312⟩ else if l=uy then ⟨5,⟨#[]⟩,0,9221120237041090560⟩ else if l ∈ words then ⟨2,bytesOf l,0,0⟩ else ⟨1,bytesOf l,0,0⟩
def QY(p:UInt8->Bool)(r:List UInt8):Bool:=match r with | []=>false|c::_=>p c
def nameP(r:List UInt8):Pc:=if runN dO r=0\/QY bI r=true then lJ else if 31<runN dO r then gG (runN dO r) 63 else kN (kD (r.take (runN dO r))) (runN dO r)
def mO(r:List UInt8):Nat:=match r with
 | 112::43::d=>2+runN bI d
 | 112::45::d=>2+runN bI d
 | 112::d=>1+runN bI d
 | _=>0
def sQ(r:List UInt8):Nat:=2+runN iN (r.drop 2)+mO (r.drop (2+runN iN (r.drop 2)))
def wu:List UInt8:=[48,120]
def fC(r:List UInt8):Pc:=if r.take 2=wu then (if (iQ (r.take (sQ r))).2=0 then kN ⟨5,⟨#[]⟩,0,(iQ (r.take (sQ r))).1⟩ (sQ r) else gG (sQ r) 62) else lJ
def fJ(r:List UInt8):Pc:=if runN bI r=0 then lJ else if (kW (r.take (runN bI r))).2=0 then kN ⟨4,⟨#[]⟩,(kW (r.take (runN bI r))).1,0⟩ (runN bI r) else gG (runN bI r) 62
def bZ(r:List UInt8):Nat × Nat:=match r with
 | []=>(0,0)
 | c::q=>if c.toNat<32\/126<c.toNat then (0,0) else if c=92 then (match q with
  | 92::_=>(92,2)
  | 34::_=>(34,2)
  | 110::_=>(10,2)
  | 120::h::l::_=>if dY h=true/\dY l=true then ((16*bT h+bT l).toNat,4) else (0,0)
  | _=>(0,0)) else (c.toNat,1)
def bq:Nat->List UInt8->Nat->List UInt8->Pc
 | 0,_,n,_=>gG n 61
 | f+1,r,n,acc=>match r with
  | []=>gG n 61
  | c::_=>if c=34 then kN ⟨6,bytesOf acc,0,0⟩ (n+1) else
   if (bZ r).2=0 then gG n 61 else bq f (r.drop (bZ r).2) (n+(bZ r).2) (acc++[(bZ r).1.toUInt8])
def qd(p:Pc):Pc:=if p.code=0 then p else gG 1 61
def dh(r:List UInt8):Pc:=if r.head? = some 34 then qd (bq r.length (r.drop 1) 1 []) else lJ
def marks:List (List UInt8):=[[61,61],[33,61],[60,61],[62,61],[60,60],[62,62],[47,47],[46,46],[43],[45],[42],[47],[37],[38],[124],[94],[126],[60],[62],[61],[40],[41],[123],[125],[91],[93],[44],[59],[58]]
def kP(r:List UInt8):Pc:=match marks.find? (λm=>r.take m.length==m) with
 | some m=>kN ⟨3,bytesOf m,0,0⟩ m.length
 | none=>lJ
def jK(a b:Pc):Pc:=if a.size=0 then b else a
def bF(r:List UInt8):Pc:=jK (sK r) (jK (nameP r) (jK (fC r) (jK (fJ r) (jK (dh r) (kP r)))))
theorem gZ(p:UInt8->Bool)(l:List UInt8):runN p l<=l.length:=(List.takeWhile_prefix p).length_le
theorem dP{p:UInt8->Bool}{c:UInt8}{l:List UInt8}(h:p c=true):runN p (c::l)=runN p l+1:=by unfold runN;rw[List.takeWhile_cons,h];rfl
theorem gM{p:UInt8->Bool}{c:UInt8}{l:List UInt8}(h:p c=false):runN p (c::l)=0:=by unfold runN;rw[List.takeWhile_cons,h];rfl
theorem Fp(p:UInt8->Bool)(l:List UInt8)(k:Nat)(ha:(l.take k).all p=true)(hk:k<=l.length)(hn:∀c,l[k]? = some c->p c=false):runN p l=k:=by
 induction l generalizing k with
 | nil=>simp at hk;subst hk;rfl
 | cons c l ih=>
  cases k with
  | zero=>exact gM (hn c rfl)
  | succ k=>
   rw[List.take_succ_cons,List.all_cons,Bool.and_eq_true] at ha
   rw[dP ha.1,ih k ha.2 (by simpa using hk) (λd hd=>hn d (by simpa using hd))]
structure Yd where
 t:Tk
 a:Int
 c:Int
 f:Int
def dF(l:List Nat):Nat:=l.foldl (λa b=>2*a+b) 0
theorem Vy(l:List Nat)(a:Nat):l.foldl (λa b=>2*a+b) a=a*2 ^ l.length+dF l:=by
 induction l generalizing a with
 | nil=>simp[dF]
 | cons c l ih=>
  have e:dF (c::l)=l.foldl (λa b=>2*a+b) (2*0+c):=rfl
  rw[List.foldl_cons,ih,e,ih,List.length_cons,aL,Nat.add_mul,Nat.mul_zero,Nat.zero_add,Nat.add_assoc]
  congr 1
  rw[aY 2 a,bO,aY 2]
theorem tH(c:Nat)(l:List Nat):dF (c::l)=c*2 ^ l.length+dF l:=by
 have e:dF (c::l)=l.foldl (λa b=>2*a+b) (2*0+c):=rfl
 rw[e,Vy,Nat.mul_zero,Nat.zero_add]
theorem jw(l:List Nat)(b:Nat):dF (l++[b])=2*dF l+b:=by simp[dF,List.foldl_append]
theorem Bc(l:List Nat):dF (0::l)=dF l:=by rw[tH,Nat.zero_mul,Nat.zero_add]
theorem Bf(l:List Nat)(n:Nat):dF (l++[n/8,n/4%2,n/2%2,n%2])=16*dF l+n:=by
 have e:l++[n/8,n/4%2,n/2%2,n%2]=(((l++[n/8])++[n/4%2])++[n/2%2])++[n%2]:=by simp
 rw[e,jw,jw,jw,jw]
 omega
theorem F9(l:List Nat)(h:∀b ∈ l,b<=1):dF l<2 ^ l.length:=by
 induction l with
 | nil=>simp[dF]
 | cons c l ih=>
  rw[tH,List.length_cons,aL]
  have h1:=h c (by simp)
  have h2:=ih (λx hx=>h x (by simp[hx]))
  have h3:c*2 ^ l.length<=1*2 ^ l.length:=ay _ h1
  omega
theorem KH(l:List Nat)(h:∀b ∈ l,b<=1):dF (1::l)≠0/\(dF (1::l)).log2=l.length:=by
 have h1:=F9 l h
 have e:dF (1::l)=2 ^ l.length+dF l:=by rw[tH,Nat.one_mul]
 have p:=bY l.length
 have hne:dF (1::l)≠0:=by omega
 refine⟨hne,?_⟩
 rw[dI hne,e]
 refine⟨by omega,?_⟩
 rw[aL];omega
theorem Lh(n:Nat)(h:n%2=1):dX n=n/\fH n=0:=by
 rw[dX,fH]
 rw[if_neg (by omega),if_neg (by omega),if_neg (by omega),if_neg (by omega)]
 exact⟨rfl,rfl⟩
theorem JY(n:Nat)(low:Int)(h:n%2=1) :
  bH n low=if 52<n.log2\/low < -1074\/1023<low+n.log2 then none
   else if low+n.log2 < -1022 then some ((n*2 ^ (low+1074).toNat:Nat):Int)
   else some (((low+n.log2+1023).toNat*4503599627370496+(n*2 ^ (52-n.log2)-4503599627370496):Nat):Int):=by
 obtain⟨o1,o2⟩:=Lh n h
 unfold bH
 rw[if_neg (by omega),o1,o2]
 have e:low+((0:Nat):Int)=low:=by omega
 rw[e]
theorem FL(n:Nat)(low:Int):bH (2*n) low=bH n (low+1):=by
 have:=uU n low 1
 rw[Nat.pow_one,aY] at this
 exact this
theorem decDigits_eq'(n:Nat):Lib.decDigits n=xD n:=by
 induction n using dQ with
 | _ n ih=>
  rw[Lib.decDigits,xD]
  by_cases h:n<10
  ·rw[dif_pos h,if_pos h];rfl
  ·rw[dif_neg h,if_neg h,ih (n/10) (by omega)];rfl
theorem JB(i:Int):Lib.itoa i=Ev i:=by
 unfold Lib.itoa Ev
 by_cases h:i<0
 ·rw[if_pos h,if_pos h,decDigits_eq']
 ·rw[if_neg h,if_neg h,decDigits_eq']
  congr 1;omega
theorem zC(x:Nat)(h:2<=x):x.log2=(x/2).log2+1:=by
 rw[Nat.log2_def,if_pos h]
theorem FU(x:Nat)(h0:x≠0)(h:x<18446744073709551616):Lib.bitLen x=x.log2+1:=by
 induction x using dQ with
 | _ x ih=>
  rw[Lib.bitLen_half x h0 (by omega)]
  by_cases h2:2<=x
  ·rw[ih (x/2) (by omega) (by omega) (by omega),zC x h2];omega
  ·have:x=1:=by omega
   subst this
   decide
theorem Aq(f x:Nat)(h0:x≠0)(h:x<2 ^ f):Lib.ctzFrom f x=fH x:=by
 induction f generalizing x with
 | zero=>simp at h;omega
 | succ f ih=>
  rw[Lib.ctzFrom,fH,if_neg h0]
  by_cases g:x%2=1
  ·rw[if_pos g,if_neg (by omega)]
  ·rw[if_neg g,if_pos (by omega),ih (x/2) (by omega) (by rw[aL] at h;omega)]
   omega
theorem Mq(x:Nat)(h0:x≠0)(h:x<18446744073709551616):Lib.ctz 64 x=fH x:=by
 unfold Lib.ctz
 rw[if_neg h0,Aq 64 x h0 (by omega)]
def Vl:List UInt8:=[48,49,50,51,52,53,54,55,56,57,97,98,99,100,101,102]
theorem JI(c:UInt8):Lib.indexByte Vl c=bT c:=by
 have all:∀n:Fin 256,Lib.indexByte Vl (UInt8.ofNat n.val)=bT (UInt8.ofNat n.val):=by decide +kernel
 have:=all ⟨c.toNat,c.toNat_lt⟩
 simpa using this
theorem zy(l:List UInt8):Lib.hasPrefix l [45]=(match l with|45::_=>true|_=>false)/\Lib.trimPrefix l [45]=(match l with|45::d=>d|d=>d):=by
 unfold Lib.trimPrefix Lib.hasPrefix
 cases l with
 | nil=>exact⟨rfl,rfl⟩
 | cons c r=>
  by_cases h:c=45
  ·subst h;exact⟨rfl,rfl⟩
  ·have e:List.isPrefixOf [45] (c::r)=false:=by
    have:(45==c)=false:=by simpa using λe=>h e.symm
    simp[List.isPrefixOf,this]
   rw[e]
   constructor
   ·split
    ·rename_i e1;injection e1 with e2 e3;exact absurd e2 h
    ·rfl
   ·simp only[Bool.false_eq_true,if_false]
    split
    ·rename_i e1;injection e1 with e2 e3;exact absurd e2 h
    ·rfl
theorem tJ(n:Nat)(h:n≠0)(g:n%2=0):fH n=fH (n/2)+1:=by rw[fH,if_neg h,if_pos g]
theorem jW(n:Nat)(g:n%2=1):fH n=0:=by rw[fH,if_neg (by omega),if_neg (by omega)]
theorem wS(n:Nat)(h:n≠0):n.log2=(dX n).log2+fH n:=by
 induction n using dQ with
 | _ n ih=>
  by_cases g:n%2=0
  ·rw[tJ n h g,dX,if_neg h,if_pos g,zC n (by omega),ih (n/2) (by omega) (by omega)]
   omega
  ·rw[jW n (by omega),dX,if_neg h,if_neg g];rfl
theorem wT(n d:Nat)(h:n≠0)(hd:d<16):(16*n+d).log2=n.log2+4:=by
 obtain⟨l1,l2⟩:=lC h
 rw[dI (by omega),aH,aH,aH]
 rw[aH] at l2
 omega
theorem Dt(n d:Nat)(h:n≠0)(hd:d<16):fH (16*n+d)<=fH n+4:=by
 have e:∀m,m≠0->m%2=0->fH m=fH (m/2)+1:=tJ
 by_cases g1:(16*n+d)%2=0
 ·rw[e _ (by omega) g1]
  by_cases g2:((16*n+d)/2)%2=0
  ·rw[e _ (by omega) g2]
   by_cases g3:((16*n+d)/2/2)%2=0
   ·rw[e _ (by omega) g3]
    by_cases g4:((16*n+d)/2/2/2)%2=0
    ·rw[e _ (by omega) g4]
     have:(16*n+d)/2/2/2/2=n:=by omega
     rw[this]
     exact Nat.le_refl _
    ·rw[jW _ (by omega)];omega
   ·rw[jW _ (by omega)];omega
  ·rw[jW _ (by omega)];omega
 ·rw[jW _ (by omega)];omega
def BU(n:Nat):Prop:=n≠0/\fH n+53<=n.log2
theorem qW{n:Nat}(h:BU n)(d:Nat)(hd:d<16):BU (16*n+d):=by
 obtain⟨h1,h2⟩:=h
 have a:=wT n d h1 hd
 have b:=Dt n d h1 hd
 exact⟨by omega,by omega⟩
theorem Gt{n:Nat}(h:BU n)(low:Int):bH n low=none:=by
 obtain⟨h1,h2⟩:=h
 have:=wS n h1
 unfold bH
 rw[if_neg h1,if_pos (Or.inl (by omega))]
theorem KI(n:Nat)(h:n%16≠0):fH n<=3:=by
 have e:=tJ
 by_cases g1:n%2=0
 ·rw[e _ (by omega) g1]
  by_cases g2:(n/2)%2=0
  ·rw[e _ (by omega) g2]
   by_cases g3:(n/2/2)%2=0
   ·rw[e _ (by omega) g3,jW _ (by omega)];omega
   ·rw[jW _ (by omega)];omega
  ·rw[jW _ (by omega)];omega
 ·rw[jW _ (by omega)];omega
theorem A9(n k:Nat)(h:n≠0):(n*2 ^ k).log2=n.log2+k:=by
 obtain⟨l1,l2⟩:=lC h
 have p:=bY k
 have hne:n*2 ^ k≠0:=Nat.mul_ne_zero h (by omega)
 rw[dI hne]
 refine⟨by rw[aH];exact ay _ l1,?_⟩
 have:(n+1)*2 ^ k<=2 ^ (n.log2+1)*2 ^ k:=ay _ l2
 rw[<- aH,Nat.add_mul,Nat.one_mul] at this
 have e:n.log2+1+k=n.log2+k+1:=by omega
 rw[e] at this
 omega
theorem Gu(v z d:Nat)(hv:v≠0)(hd0:d≠0)(hd:d<16)(hl:64<v.log2+1+4*(z+1)):BU (16*(v*16 ^ z)+d):=by
 have ne:v*16 ^ z≠0:=Nat.mul_ne_zero hv (Nat.pos_iff_ne_zero.1 (Nat.pow_pos (by decide)))
 have l:(v*16 ^ z).log2=v.log2+4*z:=by rw[LW,A9 v _ hv]
 have a:=wT _ d ne hd
 have b:=KI (16*(v*16 ^ z)+d) (by omega)
 exact⟨by omega,by omega⟩
theorem zL(v z d:Nat)(hd:d<16)(h:v=0\/v.log2+1+4*(z+1)<=64):v*2 ^ (4*(z+1))+d<18446744073709551616/\v*2 ^ (4*(z+1))+d=16*(v*16 ^ z)+d:=by
 have e:v*2 ^ (4*(z+1))=16*(v*16 ^ z):=by
  rw[<- LW,aL,aY 16,bO]
 refine⟨?_,by rw[e]⟩
 rcases h with h|h
 ·subst h;rw[Nat.zero_mul];omega
 ·by_cases hv:v=0
  ·subst hv;rw[Nat.zero_mul];omega
  obtain⟨l1,l2⟩:=lC hv
  have p:=bY (4*(z+1))
  have h1:(v+1)*2 ^ (4*(z+1))<=2 ^ (v.log2+1)*2 ^ (4*(z+1)):=ay _ l2
  rw[<- aH,Nat.add_mul,Nat.one_mul] at h1
  have h2:2 ^ (v.log2+1+4*(z+1))<=2 ^ 64:=Nat.pow_le_pow_right (by decide) h
  have h3:(2:Nat) ^ 64=18446744073709551616:=by decide
  have h4:2 ^ 4<=2 ^ (4*(z+1)):=Nat.pow_le_pow_right (by decide) (by omega)
  omega
def BO(D:List UInt8)(v:Nat)(z:Nat)(wd:Bool):Prop:=
 v<18446744073709551616/\z<=D.length/\(wd=true->BU (iI D))/\(wd=false->iI D=v*16 ^ z)
theorem BO.start:BO [] 0 0 false:=⟨by decide,Nat.le_refl _,(by intro h;cases h),λ_=>rfl⟩
theorem BO.nought{D:List UInt8}{v z:Nat}{wd:Bool}(h:BO D v z wd)(c:UInt8)(hc:bT c=0):BO (D++[c]) v (z+1) wd:=by
 obtain⟨h1,h2,h3,h4⟩:=h
 have e:iI (D++[c])=16*iI D+0:=by rw[pW,hc];rfl
 refine⟨h1,by simp;omega,λhw=>?_,λhw=>?_⟩
 ·rw[e];exact qW (h3 hw) 0 (by decide)
 ·rw[e,h4 hw,aL,Nat.add_zero,aY 16,bO]
theorem BO.fits{D:List UInt8}{v z:Nat}{wd:Bool}(h:BO D v z wd)(c:UInt8)(d:Nat)(hc:bT c=d)(hf:v=0\/v.log2+1+4*(z+1)<=64):BO (D++[c]) (v*2 ^ (4*(z+1))+d) 0 wd:=by
 obtain⟨h1,h2,h3,h4⟩:=h
 have hd:d<16:=by have:=fE c;omega
 have e:iI (D++[c])=16*iI D+d:=by rw[pW,hc];rfl
 obtain⟨f1,f2⟩:=zL v z d hd hf
 refine⟨f1,Nat.zero_le _,λhw=>?_,λhw=>?_⟩
 ·rw[e];exact qW (h3 hw) d hd
 ·rw[e,h4 hw,f2,Nat.pow_zero,Nat.mul_one]
theorem BO.over{D:List UInt8}{v z:Nat}{wd:Bool}(h:BO D v z wd)(c:UInt8)(d:Nat)(hc:bT c=d)(hd0:d≠0)(hv:v≠0)(hf:64<v.log2+1+4*(z+1)):BO (D++[c]) v 0 true:=by
 obtain⟨h1,h2,h3,h4⟩:=h
 have hd:d<16:=by have:=fE c;omega
 have e:iI (D++[c])=16*iI D+d:=by rw[pW,hc];rfl
 refine⟨h1,Nat.zero_le _,λ_=>?_,by intro h;cases h⟩
 rw[e]
 cases wd with
 | true=>exact qW (h3 rfl) d hd
 | false=>rw[h4 rfl];exact Gu v z d hv hd0 hd hf
def E5(v:Nat)(wd:Bool)(low:Int):Option Int:=if wd=true then none else bH v low
theorem BO.exact{D:List UInt8}{v z:Nat}{wd:Bool}(h:BO D v z wd)(low:Int):bH (iI D) low=E5 v wd (low+4*z):=by
 obtain⟨h1,h2,h3,h4⟩:=h
 unfold E5
 cases wd with
 | true=>rw[if_pos rfl];exact Gt (h3 rfl) low
 | false=>
  rw[if_neg (by decide),h4 rfl,LW,uU]
  congr 1
def Place(t:List UInt8)(point:Int)(D:List UInt8):Prop:=
 (point = -1/\D=t/\∀c ∈ t,dY c=true) \/
 (∃A B,t=A++46::B/\D=A++B/\point=A.length/\(∀c ∈ A,dY c=true)/\∀c ∈ B,dY c=true)
theorem Place.start:Place [] (-1) []:=Or.inl ⟨rfl,rfl,by simp⟩
theorem Place.digit{t D:List UInt8}{point:Int}(h:Place t point D)(c:UInt8)(hc:dY c=true):Place (t++[c]) point (D++[c]):=by
 rcases h with⟨h1,h2,h3⟩|⟨A,B,h1,h2,h3,h4,h5⟩
 ·refine Or.inl ⟨h1,by rw[h2],λx hx=>?_⟩
  rcases List.mem_append.1 hx with hx|hx
  ·exact h3 x hx
  ·simp only[List.mem_singleton] at hx;rw[hx];exact hc
 ·refine Or.inr ⟨A,B++[c],by rw[h1];simp,by rw[h2];simp,h3,h4,λx hx=>?_⟩
  rcases List.mem_append.1 hx with hx|hx
  ·exact h5 x hx
  ·simp only[List.mem_singleton] at hx;rw[hx];exact hc
theorem Place.point{t D:List UInt8}{point:Int}(h:Place t point D)(hp:point<0):Place (t++[46]) t.length D/\D.length=t.length:=by
 rcases h with⟨h1,h2,h3⟩|⟨A,B,h1,h2,h3,h4,h5⟩
 ·exact⟨Or.inr ⟨t,[],rfl,by rw[h2,List.append_nil],rfl,h3,by simp⟩,by rw[h2]⟩
 ·omega
def Bl(point:Int)(rest:List UInt8):Prop:=∀c,rest.head? = some c->dY c=false/\(c=46->0<=point)
theorem wJ{t D rest:List UInt8}{point:Int}(h:Place t point D)(hs:Bl point rest) :
  readBody (t++rest)=if t.length=0\/point=0\/point=(t.length:Int)-1 then none else jF (iI D) (if 0<point then t.length-1-point.toNat else 0) rest:=by
 have d46:dY 46=false:=by decide
 rcases h with⟨h1,h2,h3⟩|⟨A,B,h1,h2,h3,h4,h5⟩
 ·obtain⟨t1,t2⟩:=mI (r:=rest) h3 (λc hc=>(hs c hc).1)
  unfold readBody
  rw[t1,t2]
  by_cases ht:t=[]
  ·rw[if_pos ht,if_pos (Or.inl (by rw[ht];rfl))]
  ·have hl:t.length≠0:=λe=>ht (eU e)
   rw[if_neg ht,if_neg (by rintro(e|e|e) <;> omega),if_neg (by omega),h2]
   split
   ·rename_i r1
    have:=(hs 46 rfl).2 rfl
    omega
   ·rfl
 ·have e:t++rest=A++46::(B++rest):=by rw[h1];simp
  have hl:t.length=A.length+1+B.length:=by rw[h1];simp;omega
  obtain⟨t1,t2⟩:=mI (r:=46::(B++rest)) h4 (λc hc=>by
   simp only[List.head?_cons,Option.some.injEq] at hc
   subst hc;exact d46)
  obtain⟨s1,s2⟩:=mI (r:=rest) h5 (λc hc=>(hs c hc).1)
  unfold readBody
  rw[e,t1,t2]
  simp only[s1,s2]
  by_cases hA:A=[]
  ·rw[if_pos hA,if_pos (Or.inr (Or.inl (by rw[h3,hA];rfl)))]
  ·have hAl:A.length≠0:=λe=>hA (eU e)
   rw[if_neg hA]
   by_cases hB:B=[]
   ·rw[if_pos hB,if_pos (Or.inr (Or.inr (by rw[h3,hl,hB];simp)))]
   ·have hBl:B.length≠0:=λe=>hB (eU e)
    rw[if_neg hB,if_neg (by rintro(e|e|e) <;> omega),if_pos (by omega),h2]
    congr 1
    omega
end Go.Proofs.YtgchnkgolclmgaaGreatDoor.W

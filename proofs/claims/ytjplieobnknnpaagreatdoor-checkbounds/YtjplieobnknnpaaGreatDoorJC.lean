import Derived.Test.YtjplieobnknnpaaGreatDoorJA
import Derived.Lib.ItoaNum
import Derived.Lib.TrailingZeros
import Derived.Lib.Bytealg
open List renaming takeWhile_cons → z1z, eq_nil_of_length_eq_zero → z4z
open Nat renaming pow_add → z0z, strongRecOn → z2z, mul_le_mul_right → z3z
set_option maxRecDepth 1000000
set_option maxHeartbeats 8000000
namespace Go.Proofs.YtjplieobnknnpaaGreatDoor.W
def FE(c:UInt8):Bool:=c==32||c==9||c==10
def DW(c:UInt8):Bool:=c != 10
def Az(c:UInt8):Bool:=decide (97<=c.toNat/\c.toNat<=122)||AV c||c==95
def Dr(c:UInt8):Bool:=c==46||BA c
def runN(p:UInt8->Bool)(l:List UInt8):Nat:=(l.takeWhile p).length
structure Tk where
 kind:Int
 text:ByteArray
 int:Int
 bits:Int
structure Pc where
 t:Tk
 size:Nat
 code:Int
def bytesOf(l:List UInt8):ByteArray:=⟨l.toArray⟩
def Cy:Tk:=⟨0,⟨#[]⟩,0,0⟩
def Cg:Pc:=⟨Cy,0,0⟩
def DF(n:Nat)(c:Int):Pc:=⟨Cy,n,c⟩
def Aj(t:Tk)(n:Nat):Pc:=⟨t,n,0⟩
def Ho(r:List UInt8):Nat:=if r.head? = some 35 then runN DW r else runN FE r
def Eb(r:List UInt8):Pc:=⟨Cy,Ho r,0⟩
def words:List (List UInt8):=[[102,110],[108,101,116],[105,102],[101,108,115,101],[119,104,105,108,101],[102,111,114],[105,110],[98,114,101,97,107],[99,111,110,116,105,110,117,101],[114,101,116,117,114,110],[111,117,116],[97,110,100],[111,114],[110,111,116],[116,114,117,101],[102,97,108,115,101],[110,105,108]]
def Gf(l:List UInt8):Tk:=if l=Dw then ⟨5,⟨#[]⟩,0,9218868437227405312⟩ else if l=Gb then ⟨5,⟨#[]⟩,0,9221120237041090560⟩ else if l ∈ words then ⟨2,bytesOf l,0,0⟩ else ⟨1,bytesOf l,0,0⟩
def Q0(p:UInt8->Bool)(r:List UInt8):Bool:=match r with | []=>false|c::_=>p c
def nameP(r:List UInt8):Pc:=if runN Az r=0\/Q0 AV r=true then Cg else if 31<runN Az r then DF (runN Az r) 63 else Aj (Gf (r.take (runN Az r))) (runN Az r)
def Ca(r:List UInt8):Nat:=match r with
 | 112::43::d=>2+runN AV d
 | 112::45::d=>2+runN AV d
 | 112::d=>1+runN AV d
 | _=>0
def DC(r:List UInt8):Nat:=2+runN Dr (r.drop 2)+Ca (r.drop (2+runN Dr (r.drop 2)))
def ER:List UInt8:=[48,120]
def Cj(r:List UInt8):Pc:=if r.take 2=ER then (if (Du (r.take (DC r))).2=0 then Aj ⟨5,⟨#[]⟩,0,(Du (r.take (DC r))).1⟩ (DC r) else DF (DC r) 62) else Cg
def Cr(r:List UInt8):Pc:=if runN AV r=0 then Cg else if (Dg (r.take (runN AV r))).2=0 then Aj ⟨4,⟨#[]⟩,(Dg (r.take (runN AV r))).1,0⟩ (runN AV r) else DF (runN AV r) 62
def Ar(r:List UInt8):Nat × Nat:=match r with
 | []=>(0,0)
 | c::q=>if c.toNat<32\/126<c.toNat then (0,0) else if c=92 then (match q with
  | 92::_=>(92,2)
  | 34::_=>(34,2)
  | 110::_=>(10,2)
  | 120::h::l::_=>if BA h=true/\BA l=true then ((16*Aw h+Aw l).toNat,4) else (0,0)
  | _=>(0,0)) else (c.toNat,1)
def Cc:Nat->List UInt8->Nat->List UInt8->Pc
 | 0,_,n,_=>DF n 61
 | f+1,r,n,acc=>match r with
  | []=>DF n 61
  | c::_=>if c=34 then Aj ⟨6,bytesOf acc,0,0⟩ (n+1) else
   if (Ar r).2=0 then DF n 61 else Cc f (r.drop (Ar r).2) (n+(Ar r).2) (acc++[(Ar r).1.toUInt8])
def qd(p:Pc):Pc:=if p.code=0 then p else DF 1 61
def DJ(r:List UInt8):Pc:=if r.head? = some 34 then qd (Cc r.length (r.drop 1) 1 []) else Cg
def marks:List (List UInt8):=[[61,61],[33,61],[60,61],[62,61],[60,60],[62,62],[47,47],[46,46],[43],[45],[42],[47],[37],[38],[124],[94],[126],[60],[62],[61],[40],[41],[123],[125],[91],[93],[44],[59],[58]]
def EI(r:List UInt8):Pc:=match marks.find? (λm=>r.take m.length==m) with
 | some m=>Aj ⟨3,bytesOf m,0,0⟩ m.length
 | none=>Cg
def DI(a b:Pc):Pc:=if a.size=0 then b else a
def AQ(r:List UInt8):Pc:=DI (Eb r) (DI (nameP r) (DI (Cj r) (DI (Cr r) (DI (DJ r) (EI r)))))
theorem GK(p:UInt8->Bool)(l:List UInt8):runN p l<=l.length:=(List.takeWhile_prefix p).length_le
theorem mg(p:UInt8->Bool)(l:List UInt8):l.take (runN p l)=l.takeWhile p:=by
 induction l with
 | nil=>rfl
 | cons c l ih=>
  unfold runN at ih ⊢
  rw[z1z]
  cases h:p c
  ·rfl
  ·simp[ih]
theorem GQ{p:UInt8->Bool}{c:UInt8}{l:List UInt8}(h:p c=true):runN p (c::l)=runN p l+1:=by unfold runN;rw[z1z,h];rfl
theorem GJ{p:UInt8->Bool}{c:UInt8}{l:List UInt8}(h:p c=false):runN p (c::l)=0:=by unfold runN;rw[z1z,h];rfl
theorem YR(p:UInt8->Bool)(l:List UInt8)(k:Nat)(ha:(l.take k).all p=true)(hk:k<=l.length)(hn:∀c,l[k]? = some c->p c=false):runN p l=k:=by
 induction l generalizing k with
 | nil=>simp at hk;subst hk;rfl
 | cons c l ih=>
  cases k with
  | zero=>exact GJ (hn c rfl)
  | succ k=>
   rw[List.take_succ_cons,List.all_cons,Bool.and_eq_true] at ha
   rw[GQ ha.1,ih k ha.2 (by simpa using hk) (λd hd=>hn d (by simpa using hd))]
structure Yd where
 t:Tk
 a:Int
 c:Int
 f:Int
def Qn(a:Nat):UInt8:=if a=0 then 48 else 49
def Lj(a:Nat):List UInt8:=if a=0 then [] else Bl 13 (CJ a)
def Qi(a:Nat):List UInt8:=if a=0 then [112,43,48] else 112::(if BH a<0 then 45 else 43)::BU (BH a).natAbs
theorem mV(a:Nat)(h1:a<9218868437227405312):CO a=48::120::Qn a::((if Lj a=[] then [] else 46::Lj a)++Qi a):=by
 unfold CO Qn Lj Qi
 rw[if_neg (by omega)]
 by_cases h0:a=0
 ·subst h0;rfl
 ·simp only[if_neg h0]
  by_cases hf:CJ a=0
  ·have e0:Bl 13 (CJ a)=[]:=by rw[hf];rfl
   rw[if_pos hf,e0,if_pos rfl]
   split <;> rfl
  ·rw[if_neg hf,if_neg (Vr _ hf)]
   split <;> simp
theorem Vv(n:Nat):Lib.decDigits n=BU n:=by
 induction n using z2z with
 | _ n ih=>
  rw[Lib.decDigits,BU]
  by_cases h:n<10
  ·rw[dif_pos h,if_pos h];rfl
  ·rw[dif_neg h,if_neg h,ih (n/10) (by omega)];rfl
theorem Yz(i:Int):Lib.itoa i=Dz i:=by
 unfold Lib.itoa Dz
 by_cases h:i<0
 ·rw[if_pos h,if_pos h,Vv]
 ·rw[if_neg h,if_neg h,Vv]
  congr 1;omega
theorem aj(x:Nat)(h:2<=x):x.log2=(x/2).log2+1:=by
 rw[Nat.log2_def,if_pos h]
theorem AAP(x:Nat)(h0:x≠0)(h:x<18446744073709551616):Lib.bitLen x=x.log2+1:=by
 induction x using z2z with
 | _ x ih=>
  rw[Lib.bitLen_half x h0 (by omega)]
  by_cases h2:2<=x
  ·rw[ih (x/2) (by omega) (by omega) (by omega),aj x h2];omega
  ·have:x=1:=by omega
   subst this
   decide
theorem rG(f x:Nat)(h0:x≠0)(h:x<2 ^ f):Lib.ctzFrom f x=Ay x:=by
 induction f generalizing x with
 | zero=>simp at h;omega
 | succ f ih=>
  rw[Lib.ctzFrom,Ay,if_neg h0]
  by_cases g:x%2=1
  ·rw[if_pos g,if_neg (by omega)]
  ·rw[if_neg g,if_pos (by omega),ih (x/2) (by omega) (by rw[Nat.pow_succ] at h;omega)]
   omega
theorem ACN(x:Nat)(h0:x≠0)(h:x<18446744073709551616):Lib.ctz 64 x=Ay x:=by
 unfold Lib.ctz
 rw[if_neg h0,rG 64 x h0 (by omega)]
def dL:List UInt8:=[48,49,50,51,52,53,54,55,56,57,97,98,99,100,101,102]
theorem AAX(c:UInt8):Lib.indexByte dL c=Aw c:=by
 have all:∀n:Fin 256,Lib.indexByte dL (UInt8.ofNat n.val)=Aw (UInt8.ofNat n.val):=by decide +kernel
 have:=all ⟨c.toNat,c.toNat_lt⟩
 simpa using this
theorem jW(l:List UInt8):Lib.hasPrefix l [45]=(match l with|45::_=>true|_=>false)/\Lib.trimPrefix l [45]=(match l with|45::d=>d|d=>d):=by
 unfold Lib.trimPrefix Lib.hasPrefix
 cases l with
 | nil=>exact⟨rfl,rfl⟩
 | cons c r=>
  by_cases h:c=45
  ·subst h;exact⟨rfl,rfl⟩
  ·have e:List.isPrefixOf [45] (c::r)=false:=by
    have:(45==c)=false:=by simpa using λe=>h e.symm
    simp[List.isPrefixOf,this]
   rw[e]
   constructor
   ·split
    ·rename_i e1;injection e1 with e2 e3;exact absurd e2 h
    ·rfl
   ·simp only[Bool.false_eq_true,if_false]
    split
    ·rename_i e1;injection e1 with e2 e3;exact absurd e2 h
    ·rfl
theorem SI(n:Nat)(h:n≠0)(g:n%2=0):Ay n=Ay (n/2)+1:=by rw[Ay,if_neg h,if_pos g]
theorem Jj(n:Nat)(g:n%2=1):Ay n=0:=by rw[Ay,if_neg (by omega),if_neg (by omega)]
theorem Ry(n:Nat)(h:n≠0):n.log2=(Ah n).log2+Ay n:=by
 induction n using z2z with
 | _ n ih=>
  by_cases g:n%2=0
  ·rw[SI n h g,Ah,if_neg h,if_pos g,aj n (by omega),ih (n/2) (by omega) (by omega)]
   omega
  ·rw[Jj n (by omega),Ah,if_neg h,if_neg g];rfl
theorem Xn(n d:Nat)(h:n≠0)(hd:d<16):(16*n+d).log2=n.log2+4:=by
 obtain⟨l1,l2⟩:=JL h
 rw[Nat.log2_eq_iff (by omega),z0z,z0z,z0z]
 rw[z0z] at l2
 omega
theorem AAi(n d:Nat)(h:n≠0)(hd:d<16):Ay (16*n+d)<=Ay n+4:=by
 have e:∀m,m≠0->m%2=0->Ay m=Ay (m/2)+1:=SI
 by_cases g1:(16*n+d)%2=0
 ·rw[e _ (by omega) g1]
  by_cases g2:((16*n+d)/2)%2=0
  ·rw[e _ (by omega) g2]
   by_cases g3:((16*n+d)/2/2)%2=0
   ·rw[e _ (by omega) g3]
    by_cases g4:((16*n+d)/2/2/2)%2=0
    ·rw[e _ (by omega) g4]
     have:(16*n+d)/2/2/2/2=n:=by omega
     rw[this]
     exact Nat.le_refl _
    ·rw[Jj _ (by omega)];omega
   ·rw[Jj _ (by omega)];omega
  ·rw[Jj _ (by omega)];omega
 ·rw[Jj _ (by omega)];omega
def Kw(n:Nat):Prop:=n≠0/\Ay n+53<=n.log2
theorem Rp{n:Nat}(h:Kw n)(d:Nat)(hd:d<16):Kw (16*n+d):=by
 obtain⟨h1,h2⟩:=h
 have a:=Xn n d h1 hd
 have b:=AAi n d h1 hd
 exact⟨by omega,by omega⟩
theorem kJ{n:Nat}(h:Kw n)(low:Int):DV n low=none:=by
 obtain⟨h1,h2⟩:=h
 have:=Ry n h1
 unfold DV
 rw[if_neg h1,if_pos (Or.inl (by omega))]
theorem sI(n:Nat)(h:n%16≠0):Ay n<=3:=by
 have e:=SI
 by_cases g1:n%2=0
 ·rw[e _ (by omega) g1]
  by_cases g2:(n/2)%2=0
  ·rw[e _ (by omega) g2]
   by_cases g3:(n/2/2)%2=0
   ·rw[e _ (by omega) g3,Jj _ (by omega)];omega
   ·rw[Jj _ (by omega)];omega
  ·rw[Jj _ (by omega)];omega
 ·rw[Jj _ (by omega)];omega
theorem kE(n k:Nat)(h:n≠0):(n*2 ^ k).log2=n.log2+k:=by
 obtain⟨l1,l2⟩:=JL h
 have p:=Nat.two_pow_pos k
 have hne:n*2 ^ k≠0:=Nat.mul_ne_zero h (by omega)
 rw[Nat.log2_eq_iff hne]
 refine⟨by rw[z0z];exact z3z _ l1,?_⟩
 have:(n+1)*2 ^ k<=2 ^ (n.log2+1)*2 ^ k:=z3z _ l2
 rw[<- z0z,Nat.add_mul,Nat.one_mul] at this
 have e:n.log2+1+k=n.log2+k+1:=by omega
 rw[e] at this
 omega
theorem ABz(v z d:Nat)(hv:v≠0)(hd0:d≠0)(hd:d<16)(hl:64<v.log2+1+4*(z+1)):Kw (16*(v*16 ^ z)+d):=by
 have ne:v*16 ^ z≠0:=Nat.mul_ne_zero hv (Nat.pos_iff_ne_zero.1 (Nat.pow_pos (by decide)))
 have l:(v*16 ^ z).log2=v.log2+4*z:=by rw[NU,kE v _ hv]
 have a:=Xn _ d ne hd
 have b:=sI (16*(v*16 ^ z)+d) (by omega)
 exact⟨by omega,by omega⟩
theorem Zp(v z d:Nat)(hd:d<16)(h:v=0\/v.log2+1+4*(z+1)<=64):v*2 ^ (4*(z+1))+d<18446744073709551616/\v*2 ^ (4*(z+1))+d=16*(v*16 ^ z)+d:=by
 have e:v*2 ^ (4*(z+1))=16*(v*16 ^ z):=by
  rw[<- NU,Nat.pow_succ,Nat.mul_comm 16,Nat.mul_assoc]
 refine⟨?_,by rw[e]⟩
 rcases h with h|h
 ·subst h;rw[Nat.zero_mul];omega
 ·by_cases hv:v=0
  ·subst hv;rw[Nat.zero_mul];omega
  obtain⟨l1,l2⟩:=JL hv
  have p:=Nat.two_pow_pos (4*(z+1))
  have h1:(v+1)*2 ^ (4*(z+1))<=2 ^ (v.log2+1)*2 ^ (4*(z+1)):=z3z _ l2
  rw[<- z0z,Nat.add_mul,Nat.one_mul] at h1
  have h2:2 ^ (v.log2+1+4*(z+1))<=2 ^ 64:=Nat.pow_le_pow_right (by decide) h
  have h3:(2:Nat) ^ 64=18446744073709551616:=by decide
  have h4:2 ^ 4<=2 ^ (4*(z+1)):=Nat.pow_le_pow_right (by decide) (by omega)
  omega
def Ev(D:List UInt8)(v:Nat)(z:Nat)(wd:Bool):Prop:=
 v<18446744073709551616/\z<=D.length/\(wd=true->Kw (Bv D))/\(wd=false->Bv D=v*16 ^ z)
theorem Ev.start:Ev [] 0 0 false:=⟨by decide,Nat.le_refl _,(by intro h;cases h),λ_=>rfl⟩
theorem Ev.nought{D:List UInt8}{v z:Nat}{wd:Bool}(h:Ev D v z wd)(c:UInt8)(hc:Aw c=0):Ev (D++[c]) v (z+1) wd:=by
 obtain⟨h1,h2,h3,h4⟩:=h
 have e:Bv (D++[c])=16*Bv D+0:=by rw[VA,hc];rfl
 refine⟨h1,by simp;omega,λhw=>?_,λhw=>?_⟩
 ·rw[e];exact Rp (h3 hw) 0 (by decide)
 ·rw[e,h4 hw,Nat.pow_succ,Nat.add_zero,Nat.mul_comm 16,Nat.mul_assoc]
theorem Ev.fits{D:List UInt8}{v z:Nat}{wd:Bool}(h:Ev D v z wd)(c:UInt8)(d:Nat)(hc:Aw c=d)(hf:v=0\/v.log2+1+4*(z+1)<=64):Ev (D++[c]) (v*2 ^ (4*(z+1))+d) 0 wd:=by
 obtain⟨h1,h2,h3,h4⟩:=h
 have hd:d<16:=by have:=RJ c;omega
 have e:Bv (D++[c])=16*Bv D+d:=by rw[VA,hc];rfl
 obtain⟨f1,f2⟩:=Zp v z d hd hf
 refine⟨f1,Nat.zero_le _,λhw=>?_,λhw=>?_⟩
 ·rw[e];exact Rp (h3 hw) d hd
 ·rw[e,h4 hw,f2,Nat.pow_zero,Nat.mul_one]
theorem Ev.over{D:List UInt8}{v z:Nat}{wd:Bool}(h:Ev D v z wd)(c:UInt8)(d:Nat)(hc:Aw c=d)(hd0:d≠0)(hv:v≠0)(hf:64<v.log2+1+4*(z+1)):Ev (D++[c]) v 0 true:=by
 obtain⟨h1,h2,h3,h4⟩:=h
 have hd:d<16:=by have:=RJ c;omega
 have e:Bv (D++[c])=16*Bv D+d:=by rw[VA,hc];rfl
 refine⟨h1,Nat.zero_le _,λ_=>?_,by intro h;cases h⟩
 rw[e]
 cases wd with
 | true=>exact Rp (h3 rfl) d hd
 | false=>rw[h4 rfl];exact ABz v z d hv hd0 hd hf
def Ko(v:Nat)(wd:Bool)(low:Int):Option Int:=if wd=true then none else DV v low
theorem Ev.exact{D:List UInt8}{v z:Nat}{wd:Bool}(h:Ev D v z wd)(low:Int):DV (Bv D) low=Ko v wd (low+4*z):=by
 obtain⟨h1,h2,h3,h4⟩:=h
 unfold Ko
 cases wd with
 | true=>rw[if_pos rfl];exact kJ (h3 rfl) low
 | false=>
  rw[if_neg (by decide),h4 rfl,NU,vH]
  congr 1
def Place(t:List UInt8)(point:Int)(D:List UInt8):Prop:=
 (point = -1/\D=t/\∀c ∈ t,BA c=true) \/
 (∃A B,t=A++46::B/\D=A++B/\point=A.length/\(∀c ∈ A,BA c=true)/\∀c ∈ B,BA c=true)
theorem Place.start:Place [] (-1) []:=Or.inl ⟨rfl,rfl,by simp⟩
theorem Place.digit{t D:List UInt8}{point:Int}(h:Place t point D)(c:UInt8)(hc:BA c=true):Place (t++[c]) point (D++[c]):=by
 rcases h with⟨h1,h2,h3⟩|⟨A,B,h1,h2,h3,h4,h5⟩
 ·refine Or.inl ⟨h1,by rw[h2],λx hx=>?_⟩
  rcases List.mem_append.1 hx with hx|hx
  ·exact h3 x hx
  ·simp only[List.mem_singleton] at hx;rw[hx];exact hc
 ·refine Or.inr ⟨A,B++[c],by rw[h1];simp,by rw[h2];simp,h3,h4,λx hx=>?_⟩
  rcases List.mem_append.1 hx with hx|hx
  ·exact h5 x hx
  ·simp only[List.mem_singleton] at hx;rw[hx];exact hc
theorem Place.point{t D:List UInt8}{point:Int}(h:Place t point D)(hp:point<0):Place (t++[46]) t.length D/\D.length=t.length:=by
 rcases h with⟨h1,h2,h3⟩|⟨A,B,h1,h2,h3,h4,h5⟩
 ·exact⟨Or.inr ⟨t,[],rfl,by rw[h2,List.append_nil],rfl,h3,by simp⟩,by rw[h2]⟩
 ·omega
def Om(point:Int)(rest:List UInt8):Prop:=∀c,rest.head? = some c->BA c=false/\(c=46->0<=point)
theorem Xj{t D rest:List UInt8}{point:Int}(h:Place t point D)(hs:Om point rest) :
  readBody (t++rest)=if t.length=0\/point=0\/point=(t.length:Int)-1 then none else KT (Bv D) (if 0<point then t.length-1-point.toNat else 0) rest:=by
 have d46:BA 46=false:=by decide
 rcases h with⟨h1,h2,h3⟩|⟨A,B,h1,h2,h3,h4,h5⟩
 ·obtain⟨t1,t2⟩:=NI (r:=rest) h3 (λc hc=>(hs c hc).1)
  unfold readBody
  rw[t1,t2]
  by_cases ht:t=[]
  ·rw[if_pos ht,if_pos (Or.inl (by rw[ht];rfl))]
  ·have hl:t.length≠0:=λe=>ht (z4z e)
   rw[if_neg ht,if_neg (by rintro(e|e|e) <;> omega),if_neg (by omega),h2]
   split
   ·rename_i r1
    have:=(hs 46 rfl).2 rfl
    omega
   ·rfl
 ·have e:t++rest=A++46::(B++rest):=by rw[h1];simp
  have hl:t.length=A.length+1+B.length:=by rw[h1];simp;omega
  obtain⟨t1,t2⟩:=NI (r:=46::(B++rest)) h4 (λc hc=>by
   simp only[List.head?_cons,Option.some.injEq] at hc
   subst hc;exact d46)
  obtain⟨s1,s2⟩:=NI (r:=rest) h5 (λc hc=>(hs c hc).1)
  unfold readBody
  rw[e,t1,t2]
  simp only[s1,s2]
  by_cases hA:A=[]
  ·rw[if_pos hA,if_pos (Or.inr (Or.inl (by rw[h3,hA];rfl)))]
  ·have hAl:A.length≠0:=λe=>hA (z4z e)
   rw[if_neg hA]
   by_cases hB:B=[]
   ·rw[if_pos hB,if_pos (Or.inr (Or.inr (by rw[h3,hl,hB];simp)))]
   ·have hBl:B.length≠0:=λe=>hB (z4z e)
    rw[if_neg hB,if_neg (by rintro(e|e|e) <;> omega),if_pos (by omega),h2]
    congr 1
    omega
end Go.Proofs.YtjplieobnknnpaaGreatDoor.W

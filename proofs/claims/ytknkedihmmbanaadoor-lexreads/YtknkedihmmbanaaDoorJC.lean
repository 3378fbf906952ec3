import Derived.Test.YtknkedihmmbanaaDoorJA
import Derived.Lib.ItoaNum
import Derived.Lib.TrailingZeros
import Derived.Lib.Bytealg
open List renaming eq_nil_of_length_eq_zero → z7z
open Nat renaming pow_add → z0z, pow_succ → z1z, mul_comm → z2z, mul_le_mul_right → z3z, mul_assoc → z4z, two_pow_pos → z5z, log2_eq_iff → z6z
set_option maxRecDepth 1000000
set_option maxHeartbeats 8000000
namespace Go.Proofs.YtknkedihmmbanaaDoor.W
def blankB(c:UInt8):Bool:=c==32||c==9||c==10
def lineB(c:UInt8):Bool:=c != 10
def nameB(c:UInt8):Bool:=decide (97<=c.toNat/\c.toNat<=122)||digB c||c==95
def hexPB(c:UInt8):Bool:=c==46||hexB c
def runN(p:UInt8->Bool)(l:List UInt8):Nat:=(l.takeWhile p).length
structure Tk where
 kind:Int
 text:ByteArray
 int:Int
 bits:Int
structure Pc where
 t:Tk
 size:Nat
 code:Int
def bytesOf(l:List UInt8):ByteArray:=⟨l.toArray⟩
def noTk:Tk:=⟨0,⟨#[]⟩,0,0⟩
def noPc:Pc:=⟨noTk,0,0⟩
def badPc(n:Nat)(c:Int):Pc:=⟨noTk,n,c⟩
def okPc(t:Tk)(n:Nat):Pc:=⟨t,n,0⟩
def gapN(r:List UInt8):Nat:=if r.head? = some 35 then runN lineB r else runN blankB r
def gapP(r:List UInt8):Pc:=⟨noTk,gapN r,0⟩
def words:List (List UInt8):=[[102,110],[108,101,116],[105,102],[101,108,115,101],[119,104,105,108,101],[102,111,114],[105,110],[98,114,101,97,107],[99,111,110,116,105,110,117,101],[114,101,116,117,114,110],[111,117,116],[97,110,100],[111,114],[110,111,116],[116,114,117,101],[102,97,108,115,101],[110,105,108]]
def namedT(l:List UInt8):Tk:=if l=infT then ⟨5,⟨#[]⟩,0,9218868437227405312⟩ else if l=nanT then ⟨5,⟨#[]⟩,0,9221120237041090560⟩ else if l ∈ words then ⟨2,bytesOf l,0,0⟩ else ⟨1,bytesOf l,0,0⟩
def headB(p:UInt8->Bool)(r:List UInt8):Bool:=match r with | []=>false|c::_=>p c
def nameP(r:List UInt8):Pc:=if runN nameB r=0\/headB digB r=true then noPc else if 31<runN nameB r then badPc (runN nameB r) 63 else okPc (namedT (r.take (runN nameB r))) (runN nameB r)
def powN(r:List UInt8):Nat:=match r with
 | 112::43::d=>2+runN digB d
 | 112::45::d=>2+runN digB d
 | 112::d=>1+runN digB d
 | _=>0
def dblN(r:List UInt8):Nat:=2+runN hexPB (r.drop 2)+powN (r.drop (2+runN hexPB (r.drop 2)))
def hexT:List UInt8:=[48,120]
def doubleP(r:List UInt8):Pc:=if r.take 2=hexT then (if (readF (r.take (dblN r))).2=0 then okPc ⟨5,⟨#[]⟩,0,(readF (r.take (dblN r))).1⟩ (dblN r) else badPc (dblN r) 62) else noPc
def wholeP(r:List UInt8):Pc:=if runN digB r=0 then noPc else if (readI (r.take (runN digB r))).2=0 then okPc ⟨4,⟨#[]⟩,(readI (r.take (runN digB r))).1,0⟩ (runN digB r) else badPc (runN digB r) 62
def speltP(r:List UInt8):Nat × Nat:=match r with
 | []=>(0,0)
 | c::q=>if c.toNat<32\/126<c.toNat then (0,0) else if c=92 then (match q with
  | 92::_=>(92,2)
  | 34::_=>(34,2)
  | 110::_=>(10,2)
  | 120::h::l::_=>if hexB h=true/\hexB l=true then ((16*hexV h+hexV l).toNat,4) else (0,0)
  | _=>(0,0)) else (c.toNat,1)
def quoteGo:Nat->List UInt8->Nat->List UInt8->Pc
 | 0,_,n,_=>badPc n 61
 | f+1,r,n,acc=>match r with
  | []=>badPc n 61
  | c::_=>if c=34 then okPc ⟨6,bytesOf acc,0,0⟩ (n+1) else
   if (speltP r).2=0 then badPc n 61 else quoteGo f (r.drop (speltP r).2) (n+(speltP r).2) (acc++[(speltP r).1.toUInt8])
def qd(p:Pc):Pc:=if p.code=0 then p else badPc 1 61
def quotedP(r:List UInt8):Pc:=if r.head? = some 34 then qd (quoteGo r.length (r.drop 1) 1 []) else noPc
def marks:List (List UInt8):=[[61,61],[33,61],[60,61],[62,61],[60,60],[62,62],[47,47],[46,46],[43],[45],[42],[47],[37],[38],[124],[94],[126],[60],[62],[61],[40],[41],[123],[125],[91],[93],[44],[59],[58]]
def markP(r:List UInt8):Pc:=match marks.find? (λm=>r.take m.length==m) with
 | some m=>okPc ⟨3,bytesOf m,0,0⟩ m.length
 | none=>noPc
def orPc(a b:Pc):Pc:=if a.size=0 then b else a
def pieceP(r:List UInt8):Pc:=orPc (gapP r) (orPc (nameP r) (orPc (doubleP r) (orPc (wholeP r) (orPc (quotedP r) (markP r)))))
theorem runN_le(p:UInt8->Bool)(l:List UInt8):runN p l<=l.length:=(List.takeWhile_prefix p).length_le
theorem runN_cons_t{p:UInt8->Bool}{c:UInt8}{l:List UInt8}(h:p c=true):runN p (c::l)=runN p l+1:=by unfold runN;rw[List.takeWhile_cons,h];rfl
theorem runN_cons_f{p:UInt8->Bool}{c:UInt8}{l:List UInt8}(h:p c=false):runN p (c::l)=0:=by unfold runN;rw[List.takeWhile_cons,h];rfl
theorem runN_at(p:UInt8->Bool)(l:List UInt8)(k:Nat)(ha:(l.take k).all p=true)(hk:k<=l.length)(hn:∀c,l[k]? = some c->p c=false):runN p l=k:=by
 induction l generalizing k with
 | nil=>simp at hk;subst hk;rfl
 | cons c l ih=>
  cases k with
  | zero=>exact runN_cons_f (hn c rfl)
  | succ k=>
   rw[List.take_succ_cons,List.all_cons,Bool.and_eq_true] at ha
   rw[runN_cons_t ha.1,ih k ha.2 (by simpa using hk) (λd hd=>hn d (by simpa using hd))]
def valB(l:List Nat):Nat:=l.foldl (λa b=>2*a+b) 0
theorem foldB(l:List Nat)(a:Nat):l.foldl (λa b=>2*a+b) a=a*2 ^ l.length+valB l:=by
 induction l generalizing a with
 | nil=>simp[valB]
 | cons c l ih=>
  have e:valB (c::l)=l.foldl (λa b=>2*a+b) (2*0+c):=rfl
  rw[List.foldl_cons,ih,e,ih,List.length_cons,z1z,Nat.add_mul,Nat.mul_zero,Nat.zero_add,Nat.add_assoc]
  congr 1
  rw[z2z 2 a,z4z,z2z 2]
theorem valB_cons(c:Nat)(l:List Nat):valB (c::l)=c*2 ^ l.length+valB l:=by
 have e:valB (c::l)=l.foldl (λa b=>2*a+b) (2*0+c):=rfl
 rw[e,foldB,Nat.mul_zero,Nat.zero_add]
theorem valB_snoc(l:List Nat)(b:Nat):valB (l++[b])=2*valB l+b:=by simp[valB,List.foldl_append]
theorem valB_nought(l:List Nat):valB (0::l)=valB l:=by rw[valB_cons,Nat.zero_mul,Nat.zero_add]
theorem valB_nibble(l:List Nat)(n:Nat):valB (l++[n/8,n/4%2,n/2%2,n%2])=16*valB l+n:=by
 have e:l++[n/8,n/4%2,n/2%2,n%2]=(((l++[n/8])++[n/4%2])++[n/2%2])++[n%2]:=by simp
 rw[e,valB_snoc,valB_snoc,valB_snoc,valB_snoc]
 omega
theorem valB_lt(l:List Nat)(h:∀b ∈ l,b<=1):valB l<2 ^ l.length:=by
 induction l with
 | nil=>simp[valB]
 | cons c l ih=>
  rw[valB_cons,List.length_cons,z1z]
  have h1:=h c (by simp)
  have h2:=ih (λx hx=>h x (by simp[hx]))
  have h3:c*2 ^ l.length<=1*2 ^ l.length:=z3z _ h1
  omega
theorem valB_log(l:List Nat)(h:∀b ∈ l,b<=1):valB (1::l)≠0/\(valB (1::l)).log2=l.length:=by
 have h1:=valB_lt l h
 have e:valB (1::l)=2 ^ l.length+valB l:=by rw[valB_cons,Nat.one_mul]
 have p:=z5z l.length
 have hne:valB (1::l)≠0:=by omega
 refine⟨hne,?_⟩
 rw[z6z hne,e]
 refine⟨by omega,?_⟩
 rw[z1z];omega
theorem odd_self(n:Nat)(h:n%2=1):oddN n=n/\twos n=0:=by
 rw[oddN,twos]
 rw[if_neg (by omega),if_neg (by omega),if_neg (by omega),if_neg (by omega)]
 exact⟨rfl,rfl⟩
theorem exact_odd(n:Nat)(low:Int)(h:n%2=1) :
  exactP n low=if 52<n.log2\/low < -1074\/1023<low+n.log2 then none
   else if low+n.log2 < -1022 then some ((n*2 ^ (low+1074).toNat:Nat):Int)
   else some (((low+n.log2+1023).toNat*4503599627370496+(n*2 ^ (52-n.log2)-4503599627370496):Nat):Int):=by
 obtain⟨o1,o2⟩:=odd_self n h
 unfold exactP
 rw[if_neg (by omega),o1,o2]
 have e:low+((0:Nat):Int)=low:=by omega
 rw[e]
theorem exact_half(n:Nat)(low:Int):exactP (2*n) low=exactP n (low+1):=by
 have:=exact_shift n low 1
 rw[Nat.pow_one,z2z] at this
 exact this
theorem log2_half(x:Nat)(h:2<=x):x.log2=(x/2).log2+1:=by
 rw[Nat.log2_def,if_pos h]
theorem bitLen_log(x:Nat)(h0:x≠0)(h:x<18446744073709551616):Lib.bitLen x=x.log2+1:=by
 induction x using Nat.strongRecOn with
 | _ x ih=>
  rw[Lib.bitLen_half x h0 (by omega)]
  by_cases h2:2<=x
  ·rw[ih (x/2) (by omega) (by omega) (by omega),log2_half x h2];omega
  ·have:x=1:=by omega
   subst this
   decide
theorem ctzFrom_twos(f x:Nat)(h0:x≠0)(h:x<2 ^ f):Lib.ctzFrom f x=twos x:=by
 induction f generalizing x with
 | zero=>simp at h;omega
 | succ f ih=>
  rw[Lib.ctzFrom,twos,if_neg h0]
  by_cases g:x%2=1
  ·rw[if_pos g,if_neg (by omega)]
  ·rw[if_neg g,if_pos (by omega),ih (x/2) (by omega) (by rw[z1z] at h;omega)]
   omega
theorem ctz_twos(x:Nat)(h0:x≠0)(h:x<18446744073709551616):Lib.ctz 64 x=twos x:=by
 unfold Lib.ctz
 rw[if_neg h0,ctzFrom_twos 64 x h0 (by omega)]
def hexL:List UInt8:=[48,49,50,51,52,53,54,55,56,57,97,98,99,100,101,102]
theorem index_hex(c:UInt8):Lib.indexByte hexL c=hexV c:=by
 have all:∀n:Fin 256,Lib.indexByte hexL (UInt8.ofNat n.val)=hexV (UInt8.ofNat n.val):=by decide +kernel
 have:=all ⟨c.toNat,c.toNat_lt⟩
 simpa using this
theorem prefix_minus(l:List UInt8):Lib.hasPrefix l [45]=(match l with|45::_=>true|_=>false)/\Lib.trimPrefix l [45]=(match l with|45::d=>d|d=>d):=by
 unfold Lib.trimPrefix Lib.hasPrefix
 cases l with
 | nil=>exact⟨rfl,rfl⟩
 | cons c r=>
  by_cases h:c=45
  ·subst h;exact⟨rfl,rfl⟩
  ·have e:List.isPrefixOf [45] (c::r)=false:=by
    have:(45==c)=false:=by simpa using λe=>h e.symm
    simp[List.isPrefixOf,this]
   rw[e]
   constructor
   ·split
    ·rename_i e1;injection e1 with e2 e3;exact absurd e2 h
    ·rfl
   ·simp only[Bool.false_eq_true,if_false]
    split
    ·rename_i e1;injection e1 with e2 e3;exact absurd e2 h
    ·rfl
theorem twos_half(n:Nat)(h:n≠0)(g:n%2=0):twos n=twos (n/2)+1:=by rw[twos,if_neg h,if_pos g]
theorem twos_odd(n:Nat)(g:n%2=1):twos n=0:=by rw[twos,if_neg (by omega),if_neg (by omega)]
theorem log2_odd(n:Nat)(h:n≠0):n.log2=(oddN n).log2+twos n:=by
 induction n using Nat.strongRecOn with
 | _ n ih=>
  by_cases g:n%2=0
  ·rw[twos_half n h g,oddN,if_neg h,if_pos g,log2_half n (by omega),ih (n/2) (by omega) (by omega)]
   omega
  ·rw[twos_odd n (by omega),oddN,if_neg h,if_neg g];rfl
theorem log2_digit(n d:Nat)(h:n≠0)(hd:d<16):(16*n+d).log2=n.log2+4:=by
 obtain⟨l1,l2⟩:=high_le h
 rw[z6z (by omega),z0z,z0z,z0z]
 rw[z0z] at l2
 omega
theorem twos_digit(n d:Nat)(h:n≠0)(hd:d<16):twos (16*n+d)<=twos n+4:=by
 have e:∀m,m≠0->m%2=0->twos m=twos (m/2)+1:=twos_half
 by_cases g1:(16*n+d)%2=0
 ·rw[e _ (by omega) g1]
  by_cases g2:((16*n+d)/2)%2=0
  ·rw[e _ (by omega) g2]
   by_cases g3:((16*n+d)/2/2)%2=0
   ·rw[e _ (by omega) g3]
    by_cases g4:((16*n+d)/2/2/2)%2=0
    ·rw[e _ (by omega) g4]
     have:(16*n+d)/2/2/2/2=n:=by omega
     rw[this]
     exact Nat.le_refl _
    ·rw[twos_odd _ (by omega)];omega
   ·rw[twos_odd _ (by omega)];omega
  ·rw[twos_odd _ (by omega)];omega
 ·rw[twos_odd _ (by omega)];omega
def wideN(n:Nat):Prop:=n≠0/\twos n+53<=n.log2
theorem wide_digit{n:Nat}(h:wideN n)(d:Nat)(hd:d<16):wideN (16*n+d):=by
 obtain⟨h1,h2⟩:=h
 have a:=log2_digit n d h1 hd
 have b:=twos_digit n d h1 hd
 exact⟨by omega,by omega⟩
theorem wide_none{n:Nat}(h:wideN n)(low:Int):exactP n low=none:=by
 obtain⟨h1,h2⟩:=h
 have:=log2_odd n h1
 unfold exactP
 rw[if_neg h1,if_pos (Or.inl (by omega))]
theorem twos_low(n:Nat)(h:n%16≠0):twos n<=3:=by
 have e:=twos_half
 by_cases g1:n%2=0
 ·rw[e _ (by omega) g1]
  by_cases g2:(n/2)%2=0
  ·rw[e _ (by omega) g2]
   by_cases g3:(n/2/2)%2=0
   ·rw[e _ (by omega) g3,twos_odd _ (by omega)];omega
   ·rw[twos_odd _ (by omega)];omega
  ·rw[twos_odd _ (by omega)];omega
 ·rw[twos_odd _ (by omega)];omega
theorem log2_mul_pow(n k:Nat)(h:n≠0):(n*2 ^ k).log2=n.log2+k:=by
 obtain⟨l1,l2⟩:=high_le h
 have p:=z5z k
 have hne:n*2 ^ k≠0:=Nat.mul_ne_zero h (by omega)
 rw[z6z hne]
 refine⟨by rw[z0z];exact z3z _ l1,?_⟩
 have:(n+1)*2 ^ k<=2 ^ (n.log2+1)*2 ^ k:=z3z _ l2
 rw[<- z0z,Nat.add_mul,Nat.one_mul] at this
 have e:n.log2+1+k=n.log2+k+1:=by omega
 rw[e] at this
 omega
theorem wide_make(v z d:Nat)(hv:v≠0)(hd0:d≠0)(hd:d<16)(hl:64<v.log2+1+4*(z+1)):wideN (16*(v*16 ^ z)+d):=by
 have ne:v*16 ^ z≠0:=Nat.mul_ne_zero hv (Nat.pos_iff_ne_zero.1 (Nat.pow_pos (by decide)))
 have l:(v*16 ^ z).log2=v.log2+4*z:=by rw[pow16,log2_mul_pow v _ hv]
 have a:=log2_digit _ d ne hd
 have b:=twos_low (16*(v*16 ^ z)+d) (by omega)
 exact⟨by omega,by omega⟩
theorem fits_make(v z d:Nat)(hd:d<16)(h:v=0\/v.log2+1+4*(z+1)<=64):v*2 ^ (4*(z+1))+d<18446744073709551616/\v*2 ^ (4*(z+1))+d=16*(v*16 ^ z)+d:=by
 have e:v*2 ^ (4*(z+1))=16*(v*16 ^ z):=by
  rw[<- pow16,z1z,z2z 16,z4z]
 refine⟨?_,by rw[e]⟩
 rcases h with h|h
 ·subst h;rw[Nat.zero_mul];omega
 ·by_cases hv:v=0
  ·subst hv;rw[Nat.zero_mul];omega
  obtain⟨l1,l2⟩:=high_le hv
  have p:=z5z (4*(z+1))
  have h1:(v+1)*2 ^ (4*(z+1))<=2 ^ (v.log2+1)*2 ^ (4*(z+1)):=z3z _ l2
  rw[<- z0z,Nat.add_mul,Nat.one_mul] at h1
  have h2:2 ^ (v.log2+1+4*(z+1))<=2 ^ 64:=Nat.pow_le_pow_right (by decide) h
  have h3:(2:Nat) ^ 64=18446744073709551616:=by decide
  have h4:2 ^ 4<=2 ^ (4*(z+1)):=Nat.pow_le_pow_right (by decide) (by omega)
  omega
def Dig(D:List UInt8)(v:Nat)(z:Nat)(wd:Bool):Prop:=
 v<18446744073709551616/\z<=D.length/\(wd=true->wideN (valH D))/\(wd=false->valH D=v*16 ^ z)
theorem Dig.start:Dig [] 0 0 false:=⟨by decide,Nat.le_refl _,(by intro h;cases h),λ_=>rfl⟩
theorem Dig.nought{D:List UInt8}{v z:Nat}{wd:Bool}(h:Dig D v z wd)(c:UInt8)(hc:hexV c=0):Dig (D++[c]) v (z+1) wd:=by
 obtain⟨h1,h2,h3,h4⟩:=h
 have e:valH (D++[c])=16*valH D+0:=by rw[valH_snoc,hc];rfl
 refine⟨h1,by simp;omega,λhw=>?_,λhw=>?_⟩
 ·rw[e];exact wide_digit (h3 hw) 0 (by decide)
 ·rw[e,h4 hw,z1z,Nat.add_zero,z2z 16,z4z]
theorem Dig.fits{D:List UInt8}{v z:Nat}{wd:Bool}(h:Dig D v z wd)(c:UInt8)(d:Nat)(hc:hexV c=d)(hf:v=0\/v.log2+1+4*(z+1)<=64):Dig (D++[c]) (v*2 ^ (4*(z+1))+d) 0 wd:=by
 obtain⟨h1,h2,h3,h4⟩:=h
 have hd:d<16:=by have:=hexV_range c;omega
 have e:valH (D++[c])=16*valH D+d:=by rw[valH_snoc,hc];rfl
 obtain⟨f1,f2⟩:=fits_make v z d hd hf
 refine⟨f1,Nat.zero_le _,λhw=>?_,λhw=>?_⟩
 ·rw[e];exact wide_digit (h3 hw) d hd
 ·rw[e,h4 hw,f2,Nat.pow_zero,Nat.mul_one]
theorem Dig.over{D:List UInt8}{v z:Nat}{wd:Bool}(h:Dig D v z wd)(c:UInt8)(d:Nat)(hc:hexV c=d)(hd0:d≠0)(hv:v≠0)(hf:64<v.log2+1+4*(z+1)):Dig (D++[c]) v 0 true:=by
 obtain⟨h1,h2,h3,h4⟩:=h
 have hd:d<16:=by have:=hexV_range c;omega
 have e:valH (D++[c])=16*valH D+d:=by rw[valH_snoc,hc];rfl
 refine⟨h1,Nat.zero_le _,λ_=>?_,by intro h;cases h⟩
 rw[e]
 cases wd with
 | true=>exact wide_digit (h3 rfl) d hd
 | false=>rw[h4 rfl];exact wide_make v z d hv hd0 hd hf
def numP(v:Nat)(wd:Bool)(low:Int):Option Int:=if wd=true then none else exactP v low
theorem Dig.exact{D:List UInt8}{v z:Nat}{wd:Bool}(h:Dig D v z wd)(low:Int):exactP (valH D) low=numP v wd (low+4*z):=by
 obtain⟨h1,h2,h3,h4⟩:=h
 unfold numP
 cases wd with
 | true=>rw[if_pos rfl];exact wide_none (h3 rfl) low
 | false=>
  rw[if_neg (by decide),h4 rfl,pow16,exact_shift]
  congr 1
def Place(t:List UInt8)(point:Int)(D:List UInt8):Prop:=
 (point = -1/\D=t/\∀c ∈ t,hexB c=true) \/
 (∃A B,t=A++46::B/\D=A++B/\point=A.length/\(∀c ∈ A,hexB c=true)/\∀c ∈ B,hexB c=true)
theorem Place.start:Place [] (-1) []:=Or.inl ⟨rfl,rfl,by simp⟩
theorem Place.digit{t D:List UInt8}{point:Int}(h:Place t point D)(c:UInt8)(hc:hexB c=true):Place (t++[c]) point (D++[c]):=by
 rcases h with⟨h1,h2,h3⟩|⟨A,B,h1,h2,h3,h4,h5⟩
 ·refine Or.inl ⟨h1,by rw[h2],λx hx=>?_⟩
  rcases List.mem_append.1 hx with hx|hx
  ·exact h3 x hx
  ·simp only[List.mem_singleton] at hx;rw[hx];exact hc
 ·refine Or.inr ⟨A,B++[c],by rw[h1];simp,by rw[h2];simp,h3,h4,λx hx=>?_⟩
  rcases List.mem_append.1 hx with hx|hx
  ·exact h5 x hx
  ·simp only[List.mem_singleton] at hx;rw[hx];exact hc
theorem Place.point{t D:List UInt8}{point:Int}(h:Place t point D)(hp:point<0):Place (t++[46]) t.length D/\D.length=t.length:=by
 rcases h with⟨h1,h2,h3⟩|⟨A,B,h1,h2,h3,h4,h5⟩
 ·exact⟨Or.inr ⟨t,[],rfl,by rw[h2,List.append_nil],rfl,h3,by simp⟩,by rw[h2]⟩
 ·omega
def stopB(point:Int)(rest:List UInt8):Prop:=∀c,rest.head? = some c->hexB c=false/\(c=46->0<=point)
theorem place_body{t D rest:List UInt8}{point:Int}(h:Place t point D)(hs:stopB point rest) :
  readBody (t++rest)=if t.length=0\/point=0\/point=(t.length:Int)-1 then none else readPow (valH D) (if 0<point then t.length-1-point.toNat else 0) rest:=by
 have d46:hexB 46=false:=by decide
 rcases h with⟨h1,h2,h3⟩|⟨A,B,h1,h2,h3,h4,h5⟩
 ·obtain⟨t1,t2⟩:=takeWhile_all (r:=rest) h3 (λc hc=>(hs c hc).1)
  unfold readBody
  rw[t1,t2]
  by_cases ht:t=[]
  ·rw[if_pos ht,if_pos (Or.inl (by rw[ht];rfl))]
  ·have hl:t.length≠0:=λe=>ht (z7z e)
   rw[if_neg ht,if_neg (by rintro(e|e|e) <;> omega),if_neg (by omega),h2]
   split
   ·rename_i r1
    have:=(hs 46 rfl).2 rfl
    omega
   ·rfl
 ·have e:t++rest=A++46::(B++rest):=by rw[h1];simp
  have hl:t.length=A.length+1+B.length:=by rw[h1];simp;omega
  obtain⟨t1,t2⟩:=takeWhile_all (r:=46::(B++rest)) h4 (λc hc=>by
   simp only[List.head?_cons,Option.some.injEq] at hc
   subst hc;exact d46)
  obtain⟨s1,s2⟩:=takeWhile_all (r:=rest) h5 (λc hc=>(hs c hc).1)
  unfold readBody
  rw[e,t1,t2]
  simp only[s1,s2]
  by_cases hA:A=[]
  ·rw[if_pos hA,if_pos (Or.inr (Or.inl (by rw[h3,hA];rfl)))]
  ·have hAl:A.length≠0:=λe=>hA (z7z e)
   rw[if_neg hA]
   by_cases hB:B=[]
   ·rw[if_pos hB,if_pos (Or.inr (Or.inr (by rw[h3,hl,hB];simp)))]
   ·have hBl:B.length≠0:=λe=>hB (z7z e)
    rw[if_neg hB,if_neg (by rintro(e|e|e) <;> omega),if_pos (by omega),h2]
    congr 1
    omega
structure Yd where
 t:Tk
 a:Int
 c:Int
 f:Int
end Go.Proofs.YtknkedihmmbanaaDoor.W

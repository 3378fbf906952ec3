import Derived.Laws.FloatArith
import Derived.Deep.Draws
import Derived.Laws.NewFold
import Derived.Test.YtkjaoandifednaaGreatDoorProg
import Derived.WalkKit
import Derived.WalkLawsBesides
import Derived.Laws.Externs
import Derived.Laws.BitsAllLaws
import Derived.KernelRfl
import Derived.Deep.QuietTactic
import Derived.BigQuiet
namespace Go.Proofs.YtkjaoandifednaaGreatDoor.W
open Ieee
def nanB (n:Int):Bool:=decide (9218868437227405312 < n % 9223372036854775808)
def fltW (n:Int):Int:=if nanB n=true then 9221120237041090560 else n
theorem D_sign:Ieee.double.signWeight=9223372036854775808:=by decide
theorem D_bin:Ieee.double.binade=4503599627370496:=by decide
theorem D_inf:Ieee.double.infRung=9218868437227405312:=by decide
theorem D_least:Ieee.double.leastPlace = -1074:=by decide
theorem read_eq (x:Nat):Ieee.double.read x =
  if x % 9223372036854775808 < 4503599627370496 then .number (x / 9223372036854775808 % 2 == 1) (x % 9223372036854775808) (-1074)
  else if x % 9223372036854775808 < 9218868437227405312 then
   .number (x / 9223372036854775808 % 2 == 1) (4503599627370496 + x % 9223372036854775808 % 4503599627370496) (-1074 + (x % 9223372036854775808 / 4503599627370496 - 1:Nat))
  else if x % 9223372036854775808=9218868437227405312 then .infinity (x / 9223372036854775808 % 2 == 1)
  else .nan (x / 9223372036854775808 % 2 == 1) (x % 9223372036854775808 - 9218868437227405312):=by
 unfold Format.read
 simp only [D_sign,D_bin,D_inf,D_least]
def opI (op:BinOp) (a b:Int):Int:=match floatBits op .f64 a.toNat b.toNat with | some r=>(r:Int) | none=>9221120237041090560
open Go.ChangeShapes Go.WideShapes Go.RowKit
theorem ret_bool {a b:Bool} (h:a=b):Ending.returned (.bool a)=.returned (.bool b):=by rw [h]
theorem ret_ii {k l:IntKind} {a a' b b':Int} (h:a=a') (g:b=b'):Ending.returned (.tuple #[.int k a,.int l b])=.returned (.tuple #[.int k a',.int l b']):=by rw [h,g]
theorem hid {p:Prop} (h:p):Hid p:=h
theorem read_number {x:Nat} {s:Bool} {m:Nat} {p:Int} (hx:x < 18446744073709551616) (h:Ieee.double.read x=.number s m p) :
  m < 9007199254740992∧-1074≤p∧p≤971∧(4503599627370496≤m∨p = -1074)∧x=(if s then 9223372036854775808 else 0) + ((p + 1074).toNat * 4503599627370496 + m):=by
 rw [read_eq] at h
 have hs:(if (x / 9223372036854775808 % 2 == 1)=true then 9223372036854775808 else 0)=x / 9223372036854775808 * 9223372036854775808:=by
  by_cases g:x / 9223372036854775808 % 2=1
  ·simp [g];omega
  ·simp [g];omega
 split at h
 ·cases h
  refine ⟨by omega,by omega,by omega,Or.inr rfl,?_⟩
  rw [hs];omega
 ·split at h
  ·cases h
   refine ⟨by omega,by omega,by omega,Or.inl (by omega),?_⟩
   rw [hs];omega
  ·split at h <;> cases h
def bigOf (k:Nat):Nat:=2 ^ k
def big:Nat:=bigOf 2200
def key:Datum→Int
 | .number s m p=>signed s m (p + 1074).toNat
 | .infinity s=>if s then -(big:Int) else (big:Int)
 | .nan _ _=>0
theorem sum_comm (a b:Datum):a.sum b=b.sum a:=by
 cases a with
 | nan s t=>cases b <;> rfl
 | infinity s=>
  cases b with
  | nan s t=>rfl
  | infinity t=>cases s <;> cases t <;> rfl
  | number t n j=>rfl
 | number s m i=>
  cases b with
  | nan s t=>rfl
  | infinity t=>rfl
  | number t n j=>
   simp only [Datum.sum]
   rw [show min j i=min i j from by omega,Int.add_comm (signed s m _),Bool.and_comm s t]
theorem product_comm (a b:Datum):a.product b=b.product a:=by
 cases a with
 | nan s t=>cases b <;> rfl
 | infinity s=>
  cases b with
  | nan s t=>rfl
  | infinity t=>simp only [Datum.product];rw [Bool.xor_comm]
  | number t n j=>rfl
 | number s m i=>
  cases b with
  | nan s t=>rfl
  | infinity t=>rfl
  | number t n j=>
   simp only [Datum.product]
   rw [Bool.xor_comm,Nat.mul_comm,Int.add_comm]
theorem add_comm (a b:Int):opI .add a b=opI .add b a:=by
 have e:floatBits .add .f64 a.toNat b.toNat=floatBits .add .f64 b.toNat a.toNat:=by
  show ((Ieee.double.read a.toNat).sum (Ieee.double.read b.toNat)).map Ieee.double.write=((Ieee.double.read b.toNat).sum (Ieee.double.read a.toNat)).map Ieee.double.write
  rw [sum_comm]
 unfold opI;rw [e]
theorem mul_comm (a b:Int):opI .mul a b=opI .mul b a:=by
 have e:floatBits .mul .f64 a.toNat b.toNat=floatBits .mul .f64 b.toNat a.toNat:=by
  show ((Ieee.double.read a.toNat).product (Ieee.double.read b.toNat)).map Ieee.double.write=((Ieee.double.read b.toNat).product (Ieee.double.read a.toNat)).map Ieee.double.write
  rw [product_comm]
 unfold opI;rw [e]
def keyI (a:Int):Int:=key (Ieee.double.read a.toNat)
def finB (a:Int):Bool:=decide (a % 9223372036854775808 < 9218868437227405312)
theorem fin_read (a:Int) (h:finB a=true):∃ s m p,Ieee.double.read a.toNat=.number s m p:=by
 rw [read_eq]
 simp only [finB,decide_eq_true_eq] at h
 split
 ·exact ⟨_,_,_,rfl⟩
 ·rw [if_pos (by omega)];exact ⟨_,_,_,rfl⟩
theorem signed_v (s:Bool) (m k:Nat):signed s m k=if s then -((m * 2 ^ k:Nat):Int) else ((m * 2 ^ k:Nat):Int):=by
 unfold signed;rw [Nat.shiftLeft_eq]
end Go.Proofs.YtkjaoandifednaaGreatDoor.W

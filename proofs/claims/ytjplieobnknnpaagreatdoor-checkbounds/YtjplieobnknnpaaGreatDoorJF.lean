import Derived.Test.YtjplieobnknnpaaGreatDoorJE
import Derived.Deep.QuietTactic
import Derived.BigQuiet
import Derived.RegionTactic
import Derived.Laws.Concat
open List renaming length_append → z4z
open Nat renaming le_refl → z1z, two_pow_pos → z5z, pow_le_pow_right → z6z, mul_lt_mul_of_pos_right → z10z
open Go.World renaming setCell → z0z, frozen?_setCell → z3z
open Go.RowKit.Below renaming refl → z2z
open Go.IntKind renaming u64 → z7z, wrap_u64 → z8z
open Go.Lib renaming trimPrefix → z9z
open Go.Proofs.Tryz
set_option maxRecDepth 1000000
set_option maxHeartbeats 8000000
namespace Go.Proofs.YtjplieobnknnpaaGreatDoor.W
open Go.ChangeShapes Go.WideShapes Go.RowKit
def MW(o:Option Int):Value:=.tuple #[.int .u64 (o.getD 0),.bool o.isSome]
theorem vQ(n:Nat)(h:n≠0):Ah n<=n/\Ah n≠0:=by
 obtain⟨o1,o2⟩:=Qt n h
 have p:=z5z (Ay n)
 have:Ah n*1<=Ah n*2 ^ Ay n:=Nat.mul_le_mul_left _ p
 omega
theorem mR(n:Nat)(h:n≠0):n/2 ^ Ay n=Ah n:=by
 obtain⟨o1,o2⟩:=Qt n h
 have e:n/2 ^ Ay n=Ah n*2 ^ Ay n/2 ^ Ay n:=by rw[<- o2]
 rw[e]
 exact Nat.mul_div_cancel _ (z5z _)
theorem mW(n:Nat)(h:n≠0)(h1:n<18446744073709551616):Ay n<=63/\n.log2<=63:=by
 have e:=Ry n h
 have l:n.log2<=63:=by
  apply Nat.le_of_not_lt
  intro hh
  have:2 ^ 64<=2 ^ n.log2:=z6z (by decide) hh
  have:=(JL h).1
  omega
 omega
theorem zF(v p:Int)(w:World) :
  Calls prog 165 #[.agg #[.int .u64 v,.int .i64 p,.bool true]] w λe w'=>e=.returned (MW none)/\Below w.heap.size w w':=by
 go_enter func165,ntmps165
 go_wp2_with fail
 go_ret2
 exact⟨rfl,(z2z _ _).alloc (z1z _) _⟩
theorem ACh(p:Int)(w:World) :
  Calls prog 165 #[.agg #[.int .u64 0,.int .i64 p,.bool false]] w λe w'=>e=.returned (MW (some 0))/\Below w.heap.size w w':=by
 go_enter func165,ntmps165
 go_wp2_with fail
 go_ret2
 exact⟨rfl,(z2z _ _).alloc (z1z _) _⟩
theorem AAr(v p tw od lg:Int)(ans:Option Int)(w:World)(ht:Tabs w)(v0:¬v=0)(p0:-200000<=p)(p1:p<=200000)(t0:0<=tw)(t1:tw<=63)(l0:0<=lg)(l1:lg<=63)
  (ct:∀w,Tabs w->Calls prog 197 #[.int .u64 v] w λe w'=>e=.returned (.int .i64 tw)/\w'=w)
  (cl:∀w,Calls prog 87 #[.int .u64 od] w λe w'=>e=.returned (.int .i64 (lg+1))/\w'=w)
  (hod:v/2 ^ tw.toNat=od) (lo hi:Int) (hlo:p+tw=lo) (hhi:lo+(lg+1)-1=hi)
  (hans:((53<lg+1\/¬53<lg+1/\lo < -1074\/¬53<lg+1/\¬lo < -1074/\1023<hi)/\ans=none) \/
   (¬53<lg+1/\¬lo < -1074/\¬1023<hi/\hi < -1022/\∃a,ans=some a/\z7z.wrap (od*2 ^ (lo+1074).toNat)=a) \/
   (¬53<lg+1/\¬lo < -1074/\¬1023<hi/\¬hi < -1022/\∃a b c d,ans=some a/\z7z.wrap (od*2 ^ (53-(lg+1)).toNat)=b/\bits .and .u64 b 4503599627370495=c/\z7z.wrap ((hi+1023)*4503599627370496)=d/\bits .or .u64 d c=a)) :
  Calls prog 165 #[.agg #[.int .u64 v,.int .i64 p,.bool false]] w λe w'=>e=.returned (MW ans)/\Below w.heap.size w w':=by
 have htW:Tabs (w.alloc (Obj.cells #[Value.int .u64 v,.int .i64 p,.bool false] 197)):=ht.below ((z2z _ _).alloc (z1z _) _)
 go_enter func165,ntmps165
 go_wp2_with (go_at_call 197;refine(ct _ htW).mono ?_;rintro e w' ⟨rfl,rfl⟩)
 go_quiet (fail)
 rcases hans with⟨h|⟨h,h2⟩|⟨h,h2,h3⟩,rfl⟩|⟨h,h2,h3,h4,a,rfl,ha⟩|⟨h,h2,h3,h4,a,b,c,d,rfl,hb,hc,hd,ha⟩
 ·go_wp2_with (go_at_call 87;refine(cl _).mono ?_;rintro e w' ⟨rfl,rfl⟩)
  go_ret2
  exact⟨rfl,below_drewN ((z2z _ _).alloc (z1z _) _) _⟩
 ·go_wp2_with (go_at_call 87;refine(cl _).mono ?_;rintro e w' ⟨rfl,rfl⟩)
  go_ret2
  exact⟨rfl,below_drewN ((z2z _ _).alloc (z1z _) _) _⟩
 ·go_wp2_with (go_at_call 87;refine(cl _).mono ?_;rintro e w' ⟨rfl,rfl⟩)
  go_ret2
  exact⟨rfl,below_drewN ((z2z _ _).alloc (z1z _) _) _⟩
 ·go_wp2_with (go_at_call 87;refine(cl _).mono ?_;rintro e w' ⟨rfl,rfl⟩)
  go_ret2
  exact⟨rfl,below_drewN ((z2z _ _).alloc (z1z _) _) _⟩
 ·go_wp2_with (go_at_call 87;refine(cl _).mono ?_;rintro e w' ⟨rfl,rfl⟩)
  go_ret2
  exact⟨rfl,below_drewN ((z2z _ _).alloc (z1z _) _) _⟩
theorem rQ(v p:Int)(wd:Bool)(v0:0<=v)(v1:v<18446744073709551616)(p0:-200000<=p)(p1:p<=200000)(w:World)(ht:Tabs w) :
  Calls prog 165 #[.agg #[.int .u64 v,.int .i64 p,.bool wd]] w λe w'=>e=.returned (MW (Ko v.toNat wd p))/\Below w.heap.size w w':=by
 cases wd with
 | true=>exact zF v p w
 | false=>
  obtain⟨n,rfl⟩:=Int.eq_ofNat_of_zero_le v0
  rw[Int.toNat_natCast]
  have e:Ko n false p=DV n p:=rfl
  rw[e]
  by_cases hn:n=0
  ·subst hn
   have e0:DV 0 p=some 0:=by unfold DV;rw[if_pos rfl]
   rw[e0]
   exact ACh p w
  ·obtain⟨o1,o2⟩:=Qt n hn
   obtain⟨o3,o4⟩:=vQ n hn
   obtain⟨t1,t2⟩:=mW n hn (by omega)
   have lo:=Ry n hn
   obtain⟨l1,l2⟩:=JL o4
   refine AAr n p (Ay n) (Ah n) (Ah n).log2 _ w ht (by omega) p0 p1 (by omega) (by omega) (by omega) (by omega) (λw h=>tZ n (by omega) v1 w h) (λw=>PE (Ah n) (by omega) (by omega) w) ?_ _ _ rfl rfl ?_
   ·rw[Int.toNat_natCast]
    have:(n:Int)/2 ^ Ay n=((n/2 ^ Ay n:Nat):Int):=by simp
    rw[this,mR n hn]
   ·unfold DV
    rw[if_neg hn]
    by_cases c1:52<(Ah n).log2\/p+Ay n < -1074\/1023<p+Ay n+(Ah n).log2
    ·rw[if_pos c1]
     refine Or.inl ⟨?_,rfl⟩
     by_cases g1:53<((Ah n).log2:Int)+1
     ·exact Or.inl g1
     ·by_cases g2:p+Ay n < -1074
      ·exact Or.inr (Or.inl ⟨g1,g2⟩)
      ·exact Or.inr (Or.inr ⟨g1,g2,by omega⟩)
    ·rw[if_neg c1]
     have k1:(Ah n).log2<=52:=by omega
     have k2:-1074<=p+Ay n:=by omega
     have k3:p+Ay n+(Ah n).log2<=1023:=by omega
     by_cases c2:p+Ay n+(Ah n).log2 < -1022
     ·rw[if_pos c2]
      refine Or.inr (Or.inl ⟨by omega,by omega,by omega,by omega,_,rfl,?_⟩)
      have e1:(Ah n:Int)*2 ^ (p+Ay n+1074).toNat=((Ah n*2 ^ (p+Ay n+1074).toNat:Nat):Int):=by simp
      have b1:Ah n*2 ^ (p+Ay n+1074).toNat<2 ^ ((Ah n).log2+1)*2 ^ (p+Ay n+1074).toNat:=z10z l2 (z5z _)
      rw[<- Nat.pow_add] at b1
      have b2:2 ^ ((Ah n).log2+1+(p+Ay n+1074).toNat)<=2 ^ 52:=z6z (by decide) (by omega)
      have b3:(2:Nat) ^ 52=4503599627370496:=by decide
      rw[e1,z8z]
      omega
     ·rw[if_neg c2]
      have sh:(53-(((Ah n).log2:Int)+1)).toNat=52-(Ah n).log2:=by omega
      have e1:(Ah n:Int)*2 ^ (52-(Ah n).log2)=((Ah n*2 ^ (52-(Ah n).log2):Nat):Int):=by simp
      have a1:2 ^ (Ah n).log2*2 ^ (52-(Ah n).log2)<=Ah n*2 ^ (52-(Ah n).log2):=Nat.mul_le_mul_right _ l1
      have a2:Ah n*2 ^ (52-(Ah n).log2)<2 ^ ((Ah n).log2+1)*2 ^ (52-(Ah n).log2):=z10z l2 (z5z _)
      rw[<- Nat.pow_add] at a1 a2
      rw[show (Ah n).log2+(52-(Ah n).log2)=52 by omega] at a1
      rw[show (Ah n).log2+1+(52-(Ah n).log2)=53 by omega] at a2
      have e5:(2:Nat) ^ 52=4503599627370496:=by decide
      have e6:(2:Nat) ^ 53=9007199254740992:=by decide
      rw[e5] at a1
      rw[e6] at a2
      refine Or.inr (Or.inr ⟨by omega,by omega,by omega,by omega,_,((Ah n*2 ^ (52-(Ah n).log2):Nat):Int),((Ah n*2 ^ (52-(Ah n).log2)-4503599627370496:Nat):Int),(((p+Ay n+(Ah n).log2+1023).toNat*4503599627370496:Nat):Int),rfl,?_,?_,?_,?_⟩)
      ·rw[sh,e1,z8z]
       omega
      ·rw[RL _ (by omega) (by omega)]
       omega
      ·rw[z8z]
       omega
      ·rw[u64_or_nat _ _ (by omega) (by omega),nat_join 52 _ _ (by rw[e5];exact Nat.mul_mod_left _ _) (by rw[e5];omega)]
def IU(p:Int):List UInt8:=(if p<0 then [45] else [43])++BU p.natAbs
theorem vI(p:Int)(h:p<0):IU p=Dz p:=by unfold IU Dz;rw[if_pos h,if_pos h];rfl
theorem oQ(p:Int)(h:¬p<0):IU p=43::Dz p:=by unfold IU Dz;rw[if_neg h,if_neg h];rfl
theorem AB4(p:Int)(h0:-2000<=p)(h1:p<=2000):(IU p).length<=5:=by
 have h:=PI p.natAbs 4 (by omega) (by omega)
 unfold IU
 rw[z4z]
 split <;> simp <;> omega
theorem yP(f:Nat)(h1:f<4503599627370496):(JY f).length<=14:=by
 obtain⟨g1,-⟩:=Tf f h1
 unfold JY
 split
 ·simp
 ·simp only[List.length_cons];omega
theorem sF(p:Int)(h0:-2000<=p)(h1:p<=2000)(w:World)(ht:Tabs w) :
  Calls prog 177 #[.int .i64 p] w λe w'=>e=.returned (.string ⟨(IU p).toArray⟩)/\Below w.heap.size w w':=by
 by_cases hs:p<0
 ·have H:=hid (vI p hs)
  go_enter func177,ntmps177
  go_wp2_with (go_at_call 205;refine(aX p (by omega) (by omega) _ ht).mono ?_;rintro e w' ⟨rfl,hb⟩)
  go_ret
  exact⟨Qy H.out.symm,hb⟩
 ·have H:=hid (oQ p hs)
  have hl:=Xe p (by omega) (by omega)
  have hc:=λw=>run_string_add_lists (P:=prog) w [43] (Dz p) (by decide) (by omega)
  clear hl
  go_enter func177,ntmps177
  go_wp2_with (go_at_call 205;refine(aX p (by omega) (by omega) _ ht).mono ?_;rintro e w' ⟨rfl,hb⟩)
  go_ret
  exact⟨Qy H.out.symm,hb⟩
def Jg(b:Bool):List UInt8:=if b=true then [45] else []
theorem AAz(u:Int)(u0:0<=u)(u1:u<18446744073709551616)(hn:IQ u=false):Ec u=Jg (decide (9223372036854775808<=u))++CO (u%9223372036854775808).toNat:=by
 unfold Ec Jg
 rw[hn]
 simp only[Bool.false_eq_true,if_false,decide_eq_true_eq]
 by_cases h:9223372036854775808<=u
 ·rw[if_pos h,if_pos h]
  have:u-9223372036854775808=u%9223372036854775808:=by omega
  rw[this];rfl
 ·rw[if_neg h,if_neg h]
  have:u=u%9223372036854775808:=by omega
  rw[<- this];rfl
theorem yh(a:Nat)(h0:a≠0)(h1:a≠9218868437227405312):CO a=[48,120,49]++JY (CJ a)++[112]++IU (BH a):=by
 unfold CO JY IU
 rw[if_neg h1,if_neg h0]
 simp only[List.append_assoc]
theorem bH(u:Int):IQ u=decide (9218868437227405312<u%9223372036854775808):=by
 unfold IQ
 rfl
theorem ACp(u:Int)(u0:0<=u)(u1:u<18446744073709551616) :
  (9218868437227405312<u%9223372036854775808/\Ec u=Gb) \/
  (u%9223372036854775808=9218868437227405312/\Ec u=Jg (decide (9223372036854775808<=u))++Dw) \/
  (u%9223372036854775808=0/\Ec u=Jg (decide (9223372036854775808<=u))++[48,120,48,112,43,48]) \/
  (0<u%9223372036854775808/\u%9223372036854775808<9218868437227405312/\Ec u=Jg (decide (9223372036854775808<=u))++[48,120,49]++JY (CJ (u%9223372036854775808).toNat)++[112]++IU (BH (u%9223372036854775808).toNat)):=by
 by_cases hn:9218868437227405312<u%9223372036854775808
 ·refine Or.inl ⟨hn,?_⟩
  unfold Ec
  rw[if_pos (by rw[bH];exact decide_eq_true hn)]
 ·have e:=AAz u u0 u1 (by rw[bH];exact decide_eq_false hn)
  by_cases hi:u%9223372036854775808=9218868437227405312
  ·refine Or.inr (Or.inl ⟨hi,?_⟩)
   rw[e,hi];rfl
  ·by_cases hz:u%9223372036854775808=0
   ·refine Or.inr (Or.inr (Or.inl ⟨hz,?_⟩))
    rw[e,hz];rfl
   ·refine Or.inr (Or.inr (Or.inr ⟨by omega,by omega,?_⟩))
    rw[e,yh _ (by omega) (by omega)]
    simp only[List.append_assoc]
theorem ABE(u z:Int)(sg:Bool)(w:World)(ht:Tabs w)(hz0:0<=z)(hz1:z<9223372036854775808)
  (hs:(bits .and .u64 u 9223372036854775808 != 0)=sg) (hz:bits .andNot .u64 u 9223372036854775808=z) (hw:9218868437227405312<z\/z=9218868437227405312\/z=0\/(0<z/\z<9218868437227405312)) :
  Calls prog 153 #[.int .u64 u] w λe w'=>(∃l,e=.returned (.string ⟨l.toArray⟩)/\(9218868437227405312<z->l=Gb)/\(z=9218868437227405312->l=Jg sg++Dw)/\(z=0->l=Jg sg++[48,120,48,112,43,48]) /\
   (0<z/\z<9218868437227405312->l=Jg sg++[48,120,49]++JY (CJ z.toNat)++[112]++IU (BH z.toNat)))/\Below w.heap.size w w':=by
 rcases hw with h|h|h|⟨h1,h2⟩
 ·cases sg <;>
  ·go_enter func153,ntmps153
   go_wp2_with fail
   go_ret
   exact⟨⟨Gb,rfl,λ_=>rfl,by omega,by omega,by omega⟩,z2z _ _⟩
 ·subst h
  cases sg <;>
  ·go_enter func153,ntmps153
   go_wp2_with fail
   go_ret
   exact⟨⟨_,rfl,by omega,λ_=>rfl,by omega,by omega⟩,z2z _ _⟩
 ·subst h
  cases sg <;>
  ·go_enter func153,ntmps153
   go_wp2_with fail
   go_ret
   exact⟨⟨_,rfl,by omega,by omega,λ_=>rfl,by omega⟩,z2z _ _⟩
 ·obtain⟨f1,-,f3,f4⟩:=Mt z.toNat (by omega) (by omega)
  have cs:=jT z h1 h2
  have cf:=iY (CJ z.toNat) f1
  have cp:=sF (BH z.toNat) (by omega) (by omega)
  have hF:=yP (CJ z.toNat) f1
  have hQ:=AB4 (BH z.toNat) (by omega) (by omega)
  generalize JY (CJ z.toNat)=F at *
  generalize IU (BH z.toNat)=Q at *
  generalize ((CJ z.toNat:Nat):Int)=fr at *
  generalize BH z.toNat=pw at *
  clear f1 f3 f4
  have g1:¬9218868437227405312<z:=by omega
  have g2:¬z=9218868437227405312:=by omega
  have g3:¬z=0:=by omega
  have G:=hid (show ¬9218868437227405312<z/\¬z=9218868437227405312/\¬z=0 from⟨g1,g2,g3⟩)
  clear hz0 hz1 h1 h2
  cases sg
  ·obtain⟨Y2,hY2⟩:∃Y2,Y2=[48,120,49]++F:=⟨_,rfl⟩
   obtain⟨Y3,hY3⟩:∃Y3,Y3=Y2++[112]:=⟨_,rfl⟩
   obtain⟨Y4,hY4⟩:∃Y4,Y4=Y3++Q:=⟨_,rfl⟩
   have y2:Y2.length<=20:=by rw[hY2,z4z];simp;omega
   have y3:Y3.length<=21:=by rw[hY3,z4z];simp;omega
   have c1:=λw=>run_string_add_lists (P:=prog) w [] [48,120,49] (by decide) (by decide)
   have c2:=λw=>run_string_add_lists (P:=prog) w [48,120,49] F (by decide) (by omega)
   have c3:=λw=>run_string_add_lists (P:=prog) w Y2 [112] (by omega) (by decide)
   have c4:=λw=>run_string_add_lists (P:=prog) w Y3 Q (by omega) (by omega)
   simp only[<- hY2,<- hY3,<- hY4] at c2 c3 c4
   have H:=hid (show Y4=Jg false++[48,120,49]++F++[112]++Q by rw[hY4,hY3,hY2];rfl)
   clear hY2 hY3 hY4 y2 y3 hF hQ
   go_enter func153,ntmps153
   go_wp2_with (first|(go_at_call 175;refine(cs _).mono ?_;rintro e w' ⟨rfl,rfl⟩)|(go_at_call 176;refine(cf _).mono ?_;rintro e w' ⟨rfl,hb⟩)|(go_at_call 177;refine(cp _ (ht.below hb)).mono ?_;rintro e w'' ⟨rfl,hb2⟩))
   go_ret
   exact⟨⟨Y4,rfl,by have:=G.out;omega,by have:=G.out;omega,by have:=G.out;omega,λ_=>H.out⟩,Nh hb hb2⟩
  ·obtain⟨Y2,hY2⟩:∃Y2,Y2=[45,48,120,49]++F:=⟨_,rfl⟩
   obtain⟨Y3,hY3⟩:∃Y3,Y3=Y2++[112]:=⟨_,rfl⟩
   obtain⟨Y4,hY4⟩:∃Y4,Y4=Y3++Q:=⟨_,rfl⟩
   have y2:Y2.length<=20:=by rw[hY2,z4z];simp;omega
   have y3:Y3.length<=21:=by rw[hY3,z4z];simp;omega
   have c1:=λw=>run_string_add_lists (P:=prog) w [45] [48,120,49] (by decide) (by decide)
   have c2:=λw=>run_string_add_lists (P:=prog) w [45,48,120,49] F (by decide) (by omega)
   have c3:=λw=>run_string_add_lists (P:=prog) w Y2 [112] (by omega) (by decide)
   have c4:=λw=>run_string_add_lists (P:=prog) w Y3 Q (by omega) (by omega)
   simp only[<- hY2,<- hY3,<- hY4] at c2 c3 c4
   have H:=hid (show Y4=Jg true++[48,120,49]++F++[112]++Q by rw[hY4,hY3,hY2];rfl)
   clear hY2 hY3 hY4 y2 y3 hF hQ
   go_enter func153,ntmps153
   go_wp2_with (first|(go_at_call 175;refine(cs _).mono ?_;rintro e w' ⟨rfl,rfl⟩)|(go_at_call 176;refine(cf _).mono ?_;rintro e w' ⟨rfl,hb⟩)|(go_at_call 177;refine(cp _ (ht.below hb)).mono ?_;rintro e w'' ⟨rfl,hb2⟩))
   go_ret
   exact⟨⟨Y4,rfl,by have:=G.out;omega,by have:=G.out;omega,by have:=G.out;omega,λ_=>H.out⟩,Nh hb hb2⟩
theorem yD(u:Int)(u0:0<=u)(u1:u<18446744073709551616)(w:World)(ht:Tabs w) :
  Calls prog 153 #[.int .u64 u] w λe w'=>e=.returned (.string ⟨(Ec u).toArray⟩)/\Below w.heap.size w w':=by
 refine(ABE u (u%9223372036854775808) _ w ht (by omega) (by omega) (iU u u0 u1) (ABG u u0 u1) (by omega)).mono ?_
 rintro e w' ⟨⟨l,rfl,k1,k2,k3,k4⟩,hb⟩
 refine⟨Qy ?_,hb⟩
 rcases ACp u u0 u1 with⟨h,e⟩|⟨h,e⟩|⟨h,e⟩|⟨h1,h2,e⟩
 ·rw[e,k1 h]
 ·rw[e,k2 h]
 ·rw[e,k3 h]
 ·rw[e,k4 ⟨h1,h2⟩]
def KS(l:List UInt8):Option (Nat × Int):=match l with|48::120::r=>readBody r|_=>none
def NQ(m:Bool):Int:=if m=true then 9223372036854775808 else 0
def MX(s:Int)(o:Option (Nat × Int)):Int × Int:=match o with|none=>(0,20)|some (N,low)=>match DV N low with|none=>(0,21)|some a=>(s+a,0)
theorem Vb(s:Int)(l:List UInt8):Ii s l=MX s (KS l):=by
 unfold Ii KS MX
 split
 ·rfl
 ·rename_i hn
  split
  ·rename_i h
   split at h
   ·exact(hn _ rfl).elim
   ·rfl
  ·rename_i h
   split at h
   ·exact(hn _ rfl).elim
   ·cases h
theorem uI(l:List UInt8)(h64:l.length<=64)(h1:l≠Gb)(h2:l≠Dw)(h3:l≠45::Dw):Du l=MX (NQ (Hr l)) (KS (Cb l)):=by
 unfold Du
 rw[if_neg (by omega),if_neg h1,if_neg h2,if_neg h3]
 split
 ·exact Vb _ _
 ·rename_i hn
  obtain⟨e1,e2⟩:=Vx l hn
  rw[e1,e2]
  exact Vb _ _
def NH(l:List UInt8)(sg v p:Int)(wd ok:Bool):Prop:=
 (ok=false/\KS (Cb l)=none) \/
 (ok=true/\sg=NQ (Hr l)/\0<=v/\v<18446744073709551616/\-200000<=p/\p<=200000/\∃N low,KS (Cb l)=some (N,low)/\DV N low=Ko v.toNat wd p)
theorem TD(r:List UInt8)(p:Int)(h:Ep r=some p):-100000<=p/\p<=100000:=by
 unfold Ep at h
 split at h
 ·rename_i sg ds
  by_cases c:(sg=43\/sg=45)/\ds≠[]/\ds.length<=5/\ds.all AV=true
  ·rw[if_pos c] at h
   obtain⟨-,-,c3,c4⟩:=c
   have h2:=YU ds (λc hc=>of_decide_eq_true (List.all_eq_true.1 c4 c hc))
   have h3:10 ^ ds.length<=10 ^ 5:=z6z (by decide) c3
   have h4:(10:Nat) ^ 5=100000:=by decide
   injection h with h
   by_cases g:sg=45
   ·rw[if_pos g] at h;omega
   ·rw[if_neg g] at h;omega
  ·rw[if_neg c] at h;cases h
 ·cases h
theorem bq(l d r:List UInt8)(sg v p pw:Int)(wd:Bool)(hd:Cb l=48::120::d)(hs:sg=NQ (Hr l))(hD:Ra d v p wd r true)(hp:Ep r=some pw):NH l sg v (p+pw) wd true:=by
 have hr:=TD r pw hp
 rcases hD with⟨h,-⟩|⟨-,v0,v1,p0,p1,-,D,b,hb,he⟩
 ·cases h
 ·refine Or.inr ⟨rfl,hs,v0,v1,by omega,by omega,Bv D,pw-4*b,?_,?_⟩
  ·rw[hd]
   show readBody d=_
   rw[hb,Xx,hp];rfl
  ·rw[he pw]
   congr 1;omega
theorem Yt(l d r:List UInt8)(sg v p:Int)(wd:Bool)(hd:Cb l=48::120::d)(hD:Ra d v p wd r true)(hp:Ep r=none):NH l sg 0 0 false false:=by
 rcases hD with⟨h,-⟩|⟨-,v0,v1,p0,p1,-,D,b,hb,he⟩
 ·cases h
 ·refine Or.inl ⟨rfl,?_⟩
  rw[hd]
  show readBody d=_
  rw[hb,Xx,hp];rfl
theorem dw(l d:List UInt8)(sg:Int)(hd:Cb l=48::120::d)(hD:readBody d=none):NH l sg 0 0 false false:=
 Or.inl ⟨rfl,by rw[hd];exact hD⟩
theorem qN(l:List UInt8)(sg:Int)(hd:∀d,Cb l≠48::120::d):NH l sg 0 0 false false:=by
 refine Or.inl ⟨rfl,?_⟩
 unfold KS
 split
 ·rename_i r e;exact absurd e (hd r)
 ·rfl
theorem YP{w w2:World}{x y z:Value}{t:TypeId}(hb:Below (w.alloc (.cells #[x,y,z] t)).heap.size (w.alloc (.cells #[x,y,z] t)) w2) :
  (∀i,w2.cell? ⟨w.heap.size,i,none⟩ = #[x,y,z][i]?)/\(∀i,w2.frozen? ⟨w.heap.size,i,none⟩=false)/\Below w.heap.size w w2:=by
 have lt:w.heap.size<(w.alloc (.cells #[x,y,z] t)).heap.size:=by simp
 refine⟨λi=>?_,λi=>?_,Nh ((z2z _ _).alloc (z1z _) _) hb⟩
 ·rw[hb.cell lt]
  exact World.cell?_alloc_new w _ _ _
 ·rw[hb.frozen lt,frozen?_alloc_cells,World.frozen?]
  have:w.heap[w.heap.size]? = none:=Array.getElem?_eq_none (z1z _)
  rw[this]
theorem ZE(s U G:ByteArray)(m mk:Bool)(w:World)(hG:G.size<=64)
  (c1:∀w,Calls prog 166 #[.string s,.string ⟨#[45]⟩] w λe w'=>e=.returned (.tuple #[.string U,.bool m])/\w'=w)
  (c2:∀w,Calls prog 166 #[.string U,.string ⟨#[48,120]⟩] w λe w'=>e=.returned (.tuple #[.string G,.bool mk])/\w'=w)
  (l:List UInt8) (hm:m=Hr l) (hmk:(mk=true/\Cb l=48::120::G.data.toList)\/(mk=false/\∀d,Cb l≠48::120::d)) :
  Calls prog 164 #[.string s] w λe w'=>(∃sg v p wd ok,e=.returned (.tuple #[.int .u64 sg,.agg #[.int .u64 v,.int .i64 p,.bool wd],.bool ok])/\NH l sg v p wd ok)/\Below w.heap.size w w':=by
 have HM:=hid hm
 clear hm
 rcases hmk with⟨rfl,hd⟩|⟨rfl,hd⟩
 ·have HD:=hid hd
  clear hd
  cases m with
  | false=>
   go_enter func164,ntmps164
   go_upto_region 8 with(first|((with_reducible (apply Calls.mono;first|exact c1 _|exact c2 _));rintro e w' ⟨rfl,rfl⟩)|(go_at_call 195;refine(ZG G hG _).mono ?_;rintro e w2 ⟨⟨v,p,wd,r,ok,rfl,hans⟩,hb⟩;obtain⟨hc,hf,hB⟩:=YP hb;(have a0:=hc 0);(have a1:=hc 1);(have a2:=hc 2);(have f0:=hf 0);(have f1:=hf 1);(have f2:=hf 2);simp at a0 a1 a2))
   generalize hW:z0z (z0z (z0z w2 _ _) _ _) _ _=W3
   obtain⟨c3,g3⟩:=D6 hW hc (z1z _) hB
   have z3:∀i,W3.frozen? ⟨w.heap.size,i,none⟩=false:=by
    rw[<- hW];intro i;rw[z3z,z3z,z3z];exact hf i
   clear hW hb a0 a1 a2 f0 f1 f2 hc hf hB
   have a0:=c3 0
   have a1:=c3 1
   have a2:=c3 2
   have f0:=z3 0
   have f1:=z3 1
   have f2:=z3 2
   simp at a0 a1 a2
   have C3:=hid c3
   have Z3:=hid z3
   clear c3 z3
   cases ok with
   | false=>
    have hn:readBody G.data.toList=none:=by
     rcases hans with⟨-,h⟩|⟨h,-⟩
     ·exact h
     ·cases h
    have R:=hid (dw l G.data.toList 0 HD.out hn)
    clear hn hans
    go_wp2_with fail
    generalize hV:z0z (z0z (z0z _ _ _) _ _) _ _=V
    obtain⟨fR,gR⟩:=D6 hV C3.out (z1z _) g3
    exact bodyPost_ret (v:=.tuple #[.int .u64 0,.agg #[.int .u64 0,.int .i64 0,.bool false],.bool false]) (by simp[results,results164,go_sem,fR]) rfl ⟨⟨_,_,_,_,_,rfl,R.out⟩,gR⟩
   | true=>
    have rb:-1000<=p/\p<=1000/\r.length<=G.data.toList.length:=by
     rcases hans with⟨h,-⟩|⟨-,-,-,h1,h2,h3,-⟩
     ·cases h
     ·exact⟨h1,h2,h3⟩
    obtain⟨p0,p1,rl⟩:=rb
    have hsz:(⟨r.toArray⟩:ByteArray).size=r.length:=by rw[<- Ao]
    have gl:=Ao G
    have cp:=YV ⟨r.toArray⟩ (by unfold maxLen;omega)
    clear hsz gl rl
    cases hp:Ep r with
    | none=>
     have R:=hid (Yt l G.data.toList r 0 v p wd HD.out hans hp)
     have ep:Ep (⟨r.toArray⟩:ByteArray).data.toList=none:=hp
     rw[ep] at cp
     clear hans hp ep
     go_wp2_with (go_at_call 196;(with_reducible refine(cp _).mono ?_);rintro e w' ⟨rfl,rfl⟩)
     generalize hV:z0z (z0z (z0z _ _ _) _ _) _ _=V
     obtain⟨fR,gR⟩:=D6 hV C3.out (z1z _) g3
     exact bodyPost_ret (v:=.tuple #[.int .u64 0,.agg #[.int .u64 0,.int .i64 0,.bool false],.bool false]) (by simp[results,results164,go_sem,fR]) rfl ⟨⟨_,_,_,_,_,rfl,R.out⟩,gR⟩
    | some pw=>
     obtain⟨q0,q1⟩:=TD r pw hp
     have R:=hid (bq l G.data.toList r 0 v p pw wd HD.out (by rw[<- HM.out];rfl) hans hp)
     have ep:Ep (⟨r.toArray⟩:ByteArray).data.toList=some pw:=hp
     rw[ep] at cp
     clear hans hp ep
     go_upto_region 14 with(go_at_call 196;(with_reducible refine(cp _).mono ?_);rintro e w' ⟨rfl,rfl⟩)
     generalize hV:z0z _ _ _=V
     have cV:∀i,V.cell? ⟨w.heap.size,i,none⟩ = #[Value.int .u64 v,.int .i64 (p+pw),.bool wd][i]?:=by rw[<- hV];exact Fv C3.out _ (show 1<3 by decide)
     have gV:Below w.heap.size w V:=by rw[<- hV];exact g3.setCell (p:=⟨w.heap.size,1,none⟩) (z1z _) _
     have zV:∀i,V.frozen? ⟨w.heap.size,i,none⟩=false:=by rw[<- hV];intro i;rw[z3z];exact Z3.out i
     have b0:=cV 0
     have b1:=cV 1
     have b2:=cV 2
     have y0:=zV 0
     have y1:=zV 1
     have y2:=zV 2
     simp at b0 b1 b2
     have CV:=hid cV
     clear a0 a1 a2 f0 f1 f2 hV cV zV
     go_region
     go_wp2_with fail
     generalize hX:z0z (z0z (z0z _ _ _) _ _) _ _=X
     obtain⟨fR,gR⟩:=D6 hX CV.out (z1z _) gV
     exact bodyPost_ret (v:=.tuple #[.int .u64 0,.agg #[.int .u64 v,.int .i64 (p+pw),.bool wd],.bool true]) (by simp[results,results164,go_sem,fR]) rfl ⟨⟨_,_,_,_,_,rfl,R.out⟩,gR.drew⟩
  | true=>
   go_enter func164,ntmps164
   go_upto_region 8 with(first|((with_reducible (apply Calls.mono;first|exact c1 _|exact c2 _));rintro e w' ⟨rfl,rfl⟩)|(go_at_call 195;refine(ZG G hG _).mono ?_;rintro e w2 ⟨⟨v,p,wd,r,ok,rfl,hans⟩,hb⟩;obtain⟨hc,hf,hB⟩:=YP hb;(have a0:=hc 0);(have a1:=hc 1);(have a2:=hc 2);(have f0:=hf 0);(have f1:=hf 1);(have f2:=hf 2);simp at a0 a1 a2))
   generalize hW:z0z (z0z (z0z w2 _ _) _ _) _ _=W3
   obtain⟨c3,g3⟩:=D6 hW hc (z1z _) hB
   have z3:∀i,W3.frozen? ⟨w.heap.size,i,none⟩=false:=by
    rw[<- hW];intro i;rw[z3z,z3z,z3z];exact hf i
   clear hW hb a0 a1 a2 f0 f1 f2 hc hf hB
   have a0:=c3 0
   have a1:=c3 1
   have a2:=c3 2
   have f0:=z3 0
   have f1:=z3 1
   have f2:=z3 2
   simp at a0 a1 a2
   have C3:=hid c3
   have Z3:=hid z3
   clear c3 z3
   cases ok with
   | false=>
    have hn:readBody G.data.toList=none:=by
     rcases hans with⟨-,h⟩|⟨h,-⟩
     ·exact h
     ·cases h
    have R:=hid (dw l G.data.toList 0 HD.out hn)
    clear hn hans
    go_wp2_with fail
    generalize hV:z0z (z0z (z0z _ _ _) _ _) _ _=V
    obtain⟨fR,gR⟩:=D6 hV C3.out (z1z _) g3
    exact bodyPost_ret (v:=.tuple #[.int .u64 0,.agg #[.int .u64 0,.int .i64 0,.bool false],.bool false]) (by simp[results,results164,go_sem,fR]) rfl ⟨⟨_,_,_,_,_,rfl,R.out⟩,gR⟩
   | true=>
    have rb:-1000<=p/\p<=1000/\r.length<=G.data.toList.length:=by
     rcases hans with⟨h,-⟩|⟨-,-,-,h1,h2,h3,-⟩
     ·cases h
     ·exact⟨h1,h2,h3⟩
    obtain⟨p0,p1,rl⟩:=rb
    have hsz:(⟨r.toArray⟩:ByteArray).size=r.length:=by rw[<- Ao]
    have gl:=Ao G
    have cp:=YV ⟨r.toArray⟩ (by unfold maxLen;omega)
    clear hsz gl rl
    cases hp:Ep r with
    | none=>
     have R:=hid (Yt l G.data.toList r 0 v p wd HD.out hans hp)
     have ep:Ep (⟨r.toArray⟩:ByteArray).data.toList=none:=hp
     rw[ep] at cp
     clear hans hp ep
     go_wp2_with (go_at_call 196;(with_reducible refine(cp _).mono ?_);rintro e w' ⟨rfl,rfl⟩)
     generalize hV:z0z (z0z (z0z _ _ _) _ _) _ _=V
     obtain⟨fR,gR⟩:=D6 hV C3.out (z1z _) g3
     exact bodyPost_ret (v:=.tuple #[.int .u64 0,.agg #[.int .u64 0,.int .i64 0,.bool false],.bool false]) (by simp[results,results164,go_sem,fR]) rfl ⟨⟨_,_,_,_,_,rfl,R.out⟩,gR⟩
    | some pw=>
     obtain⟨q0,q1⟩:=TD r pw hp
     have R:=hid (bq l G.data.toList r 9223372036854775808 v p pw wd HD.out (by rw[<- HM.out];rfl) hans hp)
     have ep:Ep (⟨r.toArray⟩:ByteArray).data.toList=some pw:=hp
     rw[ep] at cp
     clear hans hp ep
     go_upto_region 14 with(go_at_call 196;(with_reducible refine(cp _).mono ?_);rintro e w' ⟨rfl,rfl⟩)
     generalize hV:z0z _ _ _=V
     have cV:∀i,V.cell? ⟨w.heap.size,i,none⟩ = #[Value.int .u64 v,.int .i64 (p+pw),.bool wd][i]?:=by rw[<- hV];exact Fv C3.out _ (show 1<3 by decide)
     have gV:Below w.heap.size w V:=by rw[<- hV];exact g3.setCell (p:=⟨w.heap.size,1,none⟩) (z1z _) _
     have zV:∀i,V.frozen? ⟨w.heap.size,i,none⟩=false:=by rw[<- hV];intro i;rw[z3z];exact Z3.out i
     have b0:=cV 0
     have b1:=cV 1
     have b2:=cV 2
     have y0:=zV 0
     have y1:=zV 1
     have y2:=zV 2
     simp at b0 b1 b2
     have CV:=hid cV
     clear a0 a1 a2 f0 f1 f2 hV cV zV
     go_region
     go_wp2_with fail
     generalize hX:z0z (z0z (z0z _ _ _) _ _) _ _=X
     obtain⟨fR,gR⟩:=D6 hX CV.out (z1z _) gV
     exact bodyPost_ret (v:=.tuple #[.int .u64 9223372036854775808,.agg #[.int .u64 v,.int .i64 (p+pw),.bool wd],.bool true]) (by simp[results,results164,go_sem,fR]) rfl ⟨⟨_,_,_,_,_,rfl,R.out⟩,gR.drew⟩
 ·have R:=hid (qN l 0 hd)
  clear hd
  cases m <;>
  ·go_enter func164,ntmps164
   go_wp2_with (go_at_call 166;(first|(with_reducible refine(c1 _).mono ?_)|(with_reducible refine(c2 _).mono ?_));rintro e w' ⟨rfl,rfl⟩)
   exact bodyPost_ret (v:=.tuple #[.int .u64 0,.agg #[.int .u64 0,.int .i64 0,.bool false],.bool false]) (by simp[results,results164,go_sem]) rfl ⟨⟨_,_,_,_,_,rfl,R.out⟩,(z2z _ _).alloc (z1z _) _⟩
theorem qU(s:ByteArray)(hs:s.size<=64)(w:World) :
  Calls prog 164 #[.string s] w λe w'=>(∃sg v p wd ok,e=.returned (.tuple #[.int .u64 sg,.agg #[.int .u64 v,.int .i64 p,.bool wd],.bool ok])/\NH s.data.toList sg v p wd ok)/\Below w.heap.size w w':=by
 have sz:=Ao s
 have rl:=Zo s.data.toList
 have hsz:∀x:List UInt8,(⟨x.toArray⟩:ByteArray).size=x.length:=λx=>by rw[<- Ao]
 have c2:=λw=>Ow ⟨(Cb s.data.toList).toArray⟩ ⟨#[48,120]⟩ w
 rcases Ux (Cb s.data.toList) 48 120 with⟨h1,h2⟩|⟨h1,h2,h3⟩
 ·have e1:Lib.hasPrefix (⟨(Cb s.data.toList).toArray⟩:ByteArray).data.toList (⟨#[48,120]⟩:ByteArray).data.toList=true:=h1
  generalize hd:z9z (Cb s.data.toList) [48,120]=d at h2
  have e2:z9z (⟨(Cb s.data.toList).toArray⟩:ByteArray).data.toList (⟨#[48,120]⟩:ByteArray).data.toList=d:=hd
  rw[e1,e2] at c2
  have dl:d.length<=(Cb s.data.toList).length:=by rw[h2];simp;omega
  exact ZE s _ _ _ _ w (by rw[hsz];omega) (TN s) c2 s.data.toList rfl (Or.inl ⟨rfl,h2⟩)
 ·have e1:Lib.hasPrefix (⟨(Cb s.data.toList).toArray⟩:ByteArray).data.toList (⟨#[48,120]⟩:ByteArray).data.toList=false:=h1
  have e2:z9z (⟨(Cb s.data.toList).toArray⟩:ByteArray).data.toList (⟨#[48,120]⟩:ByteArray).data.toList=Cb s.data.toList:=h2
  rw[e1,e2] at c2
  exact ZE s _ _ _ _ w (by rw[hsz];omega) (TN s) c2 s.data.toList rfl (Or.inr ⟨rfl,h3⟩)
def Gu(l:List UInt8):Option Int:=if l=Gb then some 9221120237041090560 else if l=Dw then some 9218868437227405312 else if l=45::Dw then some 18442240474082181120 else none
def Te(o:Option Int):Value:=.tuple #[.int .u64 (o.getD 0),.bool o.isSome]
theorem Po(s:ByteArray)(w:World) :
  Calls prog 163 #[.string s] w λe w'=>e=.returned (Te (Gu s.data.toList))/\w'=w:=by
 have es:s.toList=s.data.toList:=toList_eq s
 by_cases h1:s.data.toList=Gb
 ·have H:=hid (show Gu s.data.toList=some 9221120237041090560 by unfold Gu;rw[if_pos h1])
  have q:(s.toList==[110,97,110])=true:=by rw[es,h1];rfl
  clear es h1
  go_enter func163,ntmps163
  go_wp2_with fail
  go_ret2
  exact⟨by rw[H.out];rfl,rfl⟩
 ·have q:(s.toList==[110,97,110])=false:=by rw[es,beq_eq_false_iff_ne];exact h1
  by_cases h2:s.data.toList=Dw
  ·have H:=hid (show Gu s.data.toList=some 9218868437227405312 by unfold Gu;rw[if_neg h1,if_pos h2])
   have q2:(s.toList==[105,110,102])=true:=by rw[es,h2];rfl
   clear es h1 h2
   go_enter func163,ntmps163
   go_wp2_with fail
   go_ret2
   exact⟨by rw[H.out];rfl,rfl⟩
  ·have q2:(s.toList==[105,110,102])=false:=by rw[es,beq_eq_false_iff_ne];exact h2
   by_cases h3:s.data.toList=45::Dw
   ·have H:=hid (show Gu s.data.toList=some 18442240474082181120 by unfold Gu;rw[if_neg h1,if_neg h2,if_pos h3])
    have q3:(s.toList==[45,105,110,102])=true:=by rw[es,h3];rfl
    clear es h1 h2 h3
    go_enter func163,ntmps163
    go_wp2_with fail
    go_ret2
    exact⟨by rw[H.out];rfl,rfl⟩
   ·have H:=hid (show Gu s.data.toList=none by unfold Gu;rw[if_neg h1,if_neg h2,if_neg h3])
    have q3:(s.toList==[45,105,110,102])=false:=by rw[es,beq_eq_false_iff_ne];exact h3
    clear es h1 h2 h3
    go_enter func163,ntmps163
    go_wp2_with fail
    go_ret2
    exact⟨by rw[H.out];rfl,rfl⟩
theorem nY(l:List UInt8)(x:Int)(h:Gu l=some x):Du l=(x,0):=by
 have nl:l=Gb\/l=Dw\/l=45::Dw:=by
  unfold Gu at h
  by_cases h1:l=Gb
  ·exact Or.inl h1
  ·by_cases h2:l=Dw
   ·exact Or.inr (Or.inl h2)
   ·by_cases h3:l=45::Dw
    ·exact Or.inr (Or.inr h3)
    ·rw[if_neg h1,if_neg h2,if_neg h3] at h;cases h
 rcases nl with rfl|rfl|rfl <;> (have e:some x=_:=h.symm;injection e with e;subst e;rfl)
theorem ABb(l:List UInt8)(h64:l.length<=64)(h:Gu l=none):Du l=MX (NQ (Hr l)) (KS (Cb l)):=by
 unfold Gu at h
 by_cases h1:l=Gb
 ·rw[if_pos h1] at h;cases h
 ·rw[if_neg h1] at h
  by_cases h2:l=Dw
  ·rw[if_pos h2] at h;cases h
  ·rw[if_neg h2] at h
   by_cases h3:l=45::Dw
   ·rw[if_pos h3] at h;cases h
   ·exact uI l h64 h1 h2 h3
theorem ABa(m:Bool)(a:Int)(a0:0<=a)(a1:a<9218868437227405312):bits .or .u64 (NQ m) a=NQ m+a:=by
 obtain⟨n,rfl⟩:=Int.eq_ofNat_of_zero_le a0
 cases m with
 | false=>
  have:=u64_or_nat 0 n (by decide) (by omega)
  rw[Nat.zero_or] at this
  show bits .or .u64 ((0:Nat):Int) (n:Int)=0+(n:Int)
  rw[this];omega
 | true=>
  show bits .or .u64 ((9223372036854775808:Nat):Int) (n:Int)=9223372036854775808+(n:Int)
  rw[u64_or_nat _ _ (by decide) (by omega),nat_join 63 _ _ (by decide) (by omega)]
  omega
theorem Xg(s:ByteArray)(hs:s.size<=maxLen)(w:World)(ht:Tabs w) :
  Calls prog 130 #[.string s] w λe w'=>e=.returned (.tuple #[.int .u64 (Du s.data.toList).1,.int .i64 (Du s.data.toList).2])/\Below w.heap.size w w':=by
 unfold maxLen at hs
 have sl:=Ao s
 by_cases c:s.size<=64
 ·cases hn:Gu s.data.toList with
  | some x=>
   have H:=hid (nY _ _ hn)
   have cn:=Po s
   rw[hn] at cn
   clear hn sl
   go_enter func130,ntmps130
   go_wp2_with (go_at_call 163;refine(cn _).mono ?_;rintro e w' ⟨rfl,rfl⟩;simp only[Te,Option.getD_some,Option.isSome_some])
   go_ret2
   exact⟨Im (by rw[H.out]) (by rw[H.out]),z2z _ _⟩
  | none=>
   have H:=hid (ABb _ (by omega) hn)
   have cn:=Po s
   rw[hn] at cn
   clear hn sl
   go_enter func130,ntmps130
   go_upto_region 7 with(first|(go_at_call 163;refine(cn _).mono ?_;rintro e w' ⟨rfl,rfl⟩;simp only[Te,Option.getD_none,Option.isSome_none])|(go_at_call 164;refine(qU s c _).mono ?_;rintro e w2 ⟨⟨sg,v,p,wd,ok,rfl,hans⟩,hb⟩))
   have ht3:Tabs (w2.alloc (Obj.cells #[Value.int .u64 v,.int .i64 p,.bool wd] 197)):=(ht.below hb).below ((z2z _ _).alloc (z1z _) _)
   have b3:=hb.alloc hb.size (Obj.cells #[Value.int .u64 v,.int .i64 p,.bool wd] 197)
   cases ok with
   | false=>
    have hn:KS (Cb s.data.toList)=none:=by
     rcases hans with⟨-,h⟩|⟨h,-⟩
     ·exact h
     ·cases h
    have H2:=hid (show Du s.data.toList=(0,20) by rw[H.out,hn];rfl)
    clear hn hans ht3
    go_wp2_with fail
    go_ret2
    exact⟨Im (by rw[H2.out]) (by rw[H2.out]),b3⟩
   | true=>
    rcases hans with⟨h,-⟩|⟨-,hsg,v0,v1,p0,p1,N,low,hbd,hex⟩
    ·cases h
    have cp:=rQ v p wd v0 v1 p0 p1 _ ht3
    cases ho:Ko v.toNat wd p with
    | none=>
     have H2:=hid (show Du s.data.toList=(0,21) by rw[H.out,hbd];unfold MX;simp only[hex,ho])
     rw[ho] at cp
     clear hex ho hbd hsg ht3
     go_wp2_with (go_at_call 165;refine cp.mono ?_;rintro e w4 ⟨rfl,hb4⟩;simp only[MW,Option.getD_none,Option.isSome_none])
     go_ret2
     exact⟨Im (by rw[H2.out]) (by rw[H2.out]),Nh b3 hb4⟩
    | some a=>
     obtain⟨a0,a1⟩:=Wj N low a (hex.trans ho)
     have H2:=hid (show Du s.data.toList=(sg+a,0) by rw[H.out,hbd,<- hsg];unfold MX;simp only[hex,ho])
     have ho2:bits .or .u64 sg a=sg+a:=by rw[hsg];exact ABa _ a a0 a1
     rw[ho] at cp
     clear hex ho hbd hsg ht3
     go_wp2_with (go_at_call 165;refine cp.mono ?_;rintro e w4 ⟨rfl,hb4⟩;simp only[MW,Option.getD_some,Option.isSome_some])
     go_ret2
     exact⟨Im (by rw[H2.out]) (by rw[H2.out]),Nh b3 hb4⟩
 ·have E:Du s.data.toList=(0,2):=by unfold Du;rw[if_pos (by omega)]
  have H:=hid E
  clear E
  go_enter func130,ntmps130
  go_wp2_with fail
  go_ret2
  exact⟨Im (by rw[H.out]) (by rw[H.out]),z2z _ _⟩
def KH(b:Bool)(i u:Int):List UInt8:=if b=true then Dz i else Ec u
end Go.Proofs.YtjplieobnknnpaaGreatDoor.W

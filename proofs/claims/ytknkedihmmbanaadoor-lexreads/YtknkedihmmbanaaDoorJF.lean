import Derived.Test.YtknkedihmmbanaaDoorJE
import Derived.Deep.QuietTactic
import Derived.BigQuiet
import Derived.RegionTactic
import Derived.Laws.Concat
open Nat renaming le_refl → z1z, two_pow_pos → z4z, pow_le_pow_right → z5z, mul_lt_mul_of_pos_right → z10z
open Go.World renaming setCell → z0z, frozen?_setCell → z3z
open Go.RowKit.Below renaming refl → z2z
open Go.IntKind renaming u64 → z6z, wrap_u64 → z7z
open Int renaming eq_ofNat_of_zero_le → z9z
open Go.Lib renaming trimPrefix → z8z
open Go.Proofs.Tryd
set_option maxRecDepth 1000000
set_option maxHeartbeats 8000000
namespace Go.Proofs.YtknkedihmmbanaaDoor.W
open Go.ChangeShapes Go.WideShapes Go.RowKit
def patV(o:Option Int):Value:=.tuple #[.int .u64 (o.getD 0),.bool o.isSome]
theorem odd_lt(n:Nat)(h:n≠0):oddN n<=n/\oddN n≠0:=by
 obtain⟨o1,o2⟩:=odd_twos n h
 have p:=z4z (twos n)
 have:oddN n*1<=oddN n*2 ^ twos n:=Nat.mul_le_mul_left _ p
 omega
theorem shr_twos(n:Nat)(h:n≠0):n/2 ^ twos n=oddN n:=by
 obtain⟨o1,o2⟩:=odd_twos n h
 have e:n/2 ^ twos n=oddN n*2 ^ twos n/2 ^ twos n:=by rw[<- o2]
 rw[e]
 exact Nat.mul_div_cancel _ (z4z _)
theorem twos_le(n:Nat)(h:n≠0)(h1:n<18446744073709551616):twos n<=63/\n.log2<=63:=by
 have e:=log2_odd n h
 have l:n.log2<=63:=by
  apply Nat.le_of_not_lt
  intro hh
  have:2 ^ 64<=2 ^ n.log2:=z5z (by decide) hh
  have:=(high_le h).1
  omega
 omega
theorem numPattern_wide(v p:Int)(w:World) :
  Calls prog 23 #[.agg #[.int .u64 v,.int .i64 p,.bool true]] w λe w'=>e=.returned (patV none)/\Below w.heap.size w w':=by
 go_enter func23,ntmps23
 go_wp2_with fail
 go_ret2
 exact⟨rfl,(z2z _ _).alloc (z1z _) _⟩
theorem numPattern_zero(p:Int)(w:World) :
  Calls prog 23 #[.agg #[.int .u64 0,.int .i64 p,.bool false]] w λe w'=>e=.returned (patV (some 0))/\Below w.heap.size w w':=by
 go_enter func23,ntmps23
 go_wp2_with fail
 go_ret2
 exact⟨rfl,(z2z _ _).alloc (z1z _) _⟩
theorem numPattern_num(v p tw od lg:Int)(ans:Option Int)(w:World)(ht:Tabs w)(v0:¬v=0)(p0:-200000<=p)(p1:p<=200000)(t0:0<=tw)(t1:tw<=63)(l0:0<=lg)(l1:lg<=63)
  (ct:∀w,Tabs w->Calls prog 44 #[.int .u64 v] w λe w'=>e=.returned (.int .i64 tw)/\w'=w)
  (cl:∀w,Calls prog 45 #[.int .u64 od] w λe w'=>e=.returned (.int .i64 (lg+1))/\w'=w)
  (hod:v/2 ^ tw.toNat=od) (lo hi:Int) (hlo:p+tw=lo) (hhi:lo+(lg+1)-1=hi)
  (hans:((53<lg+1\/¬53<lg+1/\lo < -1074\/¬53<lg+1/\¬lo < -1074/\1023<hi)/\ans=none) \/
   (¬53<lg+1/\¬lo < -1074/\¬1023<hi/\hi < -1022/\∃a,ans=some a/\z6z.wrap (od*2 ^ (lo+1074).toNat)=a) \/
   (¬53<lg+1/\¬lo < -1074/\¬1023<hi/\¬hi < -1022/\∃a b c d,ans=some a/\z6z.wrap (od*2 ^ (53-(lg+1)).toNat)=b/\bits .and .u64 b 4503599627370495=c/\z6z.wrap ((hi+1023)*4503599627370496)=d/\bits .or .u64 d c=a)) :
  Calls prog 23 #[.agg #[.int .u64 v,.int .i64 p,.bool false]] w λe w'=>e=.returned (patV ans)/\Below w.heap.size w w':=by
 have htW:Tabs (w.alloc (Obj.cells #[Value.int .u64 v,.int .i64 p,.bool false] 62)):=ht.below ((z2z _ _).alloc (z1z _) _)
 go_enter func23,ntmps23
 go_wp2_with (go_at_call 44;refine(ct _ htW).mono ?_;rintro e w' ⟨rfl,rfl⟩)
 go_quiet (fail)
 rcases hans with⟨h|⟨h,h2⟩|⟨h,h2,h3⟩,rfl⟩|⟨h,h2,h3,h4,a,rfl,ha⟩|⟨h,h2,h3,h4,a,b,c,d,rfl,hb,hc,hd,ha⟩
 ·go_wp2_with (go_at_call 45;refine(cl _).mono ?_;rintro e w' ⟨rfl,rfl⟩)
  go_ret2
  exact⟨rfl,below_drewN ((z2z _ _).alloc (z1z _) _) _⟩
 ·go_wp2_with (go_at_call 45;refine(cl _).mono ?_;rintro e w' ⟨rfl,rfl⟩)
  go_ret2
  exact⟨rfl,below_drewN ((z2z _ _).alloc (z1z _) _) _⟩
 ·go_wp2_with (go_at_call 45;refine(cl _).mono ?_;rintro e w' ⟨rfl,rfl⟩)
  go_ret2
  exact⟨rfl,below_drewN ((z2z _ _).alloc (z1z _) _) _⟩
 ·go_wp2_with (go_at_call 45;refine(cl _).mono ?_;rintro e w' ⟨rfl,rfl⟩)
  go_ret2
  exact⟨rfl,below_drewN ((z2z _ _).alloc (z1z _) _) _⟩
 ·go_wp2_with (go_at_call 45;refine(cl _).mono ?_;rintro e w' ⟨rfl,rfl⟩)
  go_ret2
  exact⟨rfl,below_drewN ((z2z _ _).alloc (z1z _) _) _⟩
theorem numPattern_c(v p:Int)(wd:Bool)(v0:0<=v)(v1:v<18446744073709551616)(p0:-200000<=p)(p1:p<=200000)(w:World)(ht:Tabs w) :
  Calls prog 23 #[.agg #[.int .u64 v,.int .i64 p,.bool wd]] w λe w'=>e=.returned (patV (numP v.toNat wd p))/\Below w.heap.size w w':=by
 cases wd with
 | true=>exact numPattern_wide v p w
 | false=>
  obtain⟨n,rfl⟩:=z9z v0
  rw[Int.toNat_natCast]
  have e:numP n false p=exactP n p:=rfl
  rw[e]
  by_cases hn:n=0
  ·subst hn
   have e0:exactP 0 p=some 0:=by unfold exactP;rw[if_pos rfl]
   rw[e0]
   exact numPattern_zero p w
  ·obtain⟨o1,o2⟩:=odd_twos n hn
   obtain⟨o3,o4⟩:=odd_lt n hn
   obtain⟨t1,t2⟩:=twos_le n hn (by omega)
   have lo:=log2_odd n hn
   obtain⟨l1,l2⟩:=high_le o4
   refine numPattern_num n p (twos n) (oddN n) (oddN n).log2 _ w ht (by omega) p0 p1 (by omega) (by omega) (by omega) (by omega) (λw h=>ctz_c n (by omega) v1 w h) (λw=>len64_c (oddN n) (by omega) (by omega) w) ?_ _ _ rfl rfl ?_
   ·rw[Int.toNat_natCast]
    have:(n:Int)/2 ^ twos n=((n/2 ^ twos n:Nat):Int):=by simp
    rw[this,shr_twos n hn]
   ·unfold exactP
    rw[if_neg hn]
    by_cases c1:52<(oddN n).log2\/p+twos n < -1074\/1023<p+twos n+(oddN n).log2
    ·rw[if_pos c1]
     refine Or.inl ⟨?_,rfl⟩
     by_cases g1:53<((oddN n).log2:Int)+1
     ·exact Or.inl g1
     ·by_cases g2:p+twos n < -1074
      ·exact Or.inr (Or.inl ⟨g1,g2⟩)
      ·exact Or.inr (Or.inr ⟨g1,g2,by omega⟩)
    ·rw[if_neg c1]
     have k1:(oddN n).log2<=52:=by omega
     have k2:-1074<=p+twos n:=by omega
     have k3:p+twos n+(oddN n).log2<=1023:=by omega
     by_cases c2:p+twos n+(oddN n).log2 < -1022
     ·rw[if_pos c2]
      refine Or.inr (Or.inl ⟨by omega,by omega,by omega,by omega,_,rfl,?_⟩)
      have e1:(oddN n:Int)*2 ^ (p+twos n+1074).toNat=((oddN n*2 ^ (p+twos n+1074).toNat:Nat):Int):=by simp
      have b1:oddN n*2 ^ (p+twos n+1074).toNat<2 ^ ((oddN n).log2+1)*2 ^ (p+twos n+1074).toNat:=z10z l2 (z4z _)
      rw[<- Nat.pow_add] at b1
      have b2:2 ^ ((oddN n).log2+1+(p+twos n+1074).toNat)<=2 ^ 52:=z5z (by decide) (by omega)
      have b3:(2:Nat) ^ 52=4503599627370496:=by decide
      rw[e1,z7z]
      omega
     ·rw[if_neg c2]
      have sh:(53-(((oddN n).log2:Int)+1)).toNat=52-(oddN n).log2:=by omega
      have e1:(oddN n:Int)*2 ^ (52-(oddN n).log2)=((oddN n*2 ^ (52-(oddN n).log2):Nat):Int):=by simp
      have a1:2 ^ (oddN n).log2*2 ^ (52-(oddN n).log2)<=oddN n*2 ^ (52-(oddN n).log2):=Nat.mul_le_mul_right _ l1
      have a2:oddN n*2 ^ (52-(oddN n).log2)<2 ^ ((oddN n).log2+1)*2 ^ (52-(oddN n).log2):=z10z l2 (z4z _)
      rw[<- Nat.pow_add] at a1 a2
      rw[show (oddN n).log2+(52-(oddN n).log2)=52 by omega] at a1
      rw[show (oddN n).log2+1+(52-(oddN n).log2)=53 by omega] at a2
      have e5:(2:Nat) ^ 52=4503599627370496:=by decide
      have e6:(2:Nat) ^ 53=9007199254740992:=by decide
      rw[e5] at a1
      rw[e6] at a2
      refine Or.inr (Or.inr ⟨by omega,by omega,by omega,by omega,_,((oddN n*2 ^ (52-(oddN n).log2):Nat):Int),((oddN n*2 ^ (52-(oddN n).log2)-4503599627370496:Nat):Int),(((p+twos n+(oddN n).log2+1023).toNat*4503599627370496:Nat):Int),rfl,?_,?_,?_,?_⟩)
      ·rw[sh,e1,z7z]
       omega
      ·rw[and52 _ (by omega) (by omega)]
       omega
      ·rw[z7z]
       omega
      ·rw[u64_or_nat _ _ (by omega) (by omega),nat_join 52 _ _ (by rw[e5];exact Nat.mul_mod_left _ _) (by rw[e5];omega)]
def bodyR(l:List UInt8):Option (Nat × Int):=match l with|48::120::r=>readBody r|_=>none
def sgI(m:Bool):Int:=if m=true then 9223372036854775808 else 0
def ansF(s:Int)(o:Option (Nat × Int)):Int × Int:=match o with|none=>(0,20)|some (N,low)=>match exactP N low with|none=>(0,21)|some a=>(s+a,0)
theorem readS_ans(s:Int)(l:List UInt8):readS s l=ansF s (bodyR l):=by
 unfold readS bodyR ansF
 split
 ·rfl
 ·rename_i hn
  split
  ·rename_i h
   split at h
   ·exact(hn _ rfl).elim
   ·rfl
  ·rename_i h
   split at h
   ·exact(hn _ rfl).elim
   ·cases h
theorem readF_ans(l:List UInt8)(h64:l.length<=64)(h1:l≠nanT)(h2:l≠infT)(h3:l≠45::infT):readF l=ansF (sgI (minus1 l)) (bodyR (rest1 l)):=by
 unfold readF
 rw[if_neg (by omega),if_neg h1,if_neg h2,if_neg h3]
 split
 ·exact readS_ans _ _
 ·rename_i hn
  obtain⟨e1,e2⟩:=rest_not l hn
  rw[e1,e2]
  exact readS_ans _ _
def DblAns(l:List UInt8)(sg v p:Int)(wd ok:Bool):Prop:=
 (ok=false/\bodyR (rest1 l)=none) \/
 (ok=true/\sg=sgI (minus1 l)/\0<=v/\v<18446744073709551616/\-200000<=p/\p<=200000/\∃N low,bodyR (rest1 l)=some (N,low)/\exactP N low=numP v.toNat wd p)
theorem powR_range(r:List UInt8)(p:Int)(h:powR r=some p):-100000<=p/\p<=100000:=by
 unfold powR at h
 split at h
 ·rename_i sg ds
  by_cases c:(sg=43\/sg=45)/\ds≠[]/\ds.length<=5/\ds.all digB=true
  ·rw[if_pos c] at h
   obtain⟨-,-,c3,c4⟩:=c
   have h2:=valD_le ds (λc hc=>of_decide_eq_true (List.all_eq_true.1 c4 c hc))
   have h3:10 ^ ds.length<=10 ^ 5:=z5z (by decide) c3
   have h4:(10:Nat) ^ 5=100000:=by decide
   injection h with h
   by_cases g:sg=45
   ·rw[if_pos g] at h;omega
   ·rw[if_neg g] at h;omega
  ·rw[if_neg c] at h;cases h
 ·cases h
theorem dbl_ok(l d r:List UInt8)(sg v p pw:Int)(wd:Bool)(hd:rest1 l=48::120::d)(hs:sg=sgI (minus1 l))(hD:DigAns d v p wd r true)(hp:powR r=some pw):DblAns l sg v (p+pw) wd true:=by
 have hr:=powR_range r pw hp
 rcases hD with⟨h,-⟩|⟨-,v0,v1,p0,p1,-,D,b,hb,he⟩
 ·cases h
 ·refine Or.inr ⟨rfl,hs,v0,v1,by omega,by omega,valH D,pw-4*b,?_,?_⟩
  ·rw[hd]
   show readBody d=_
   rw[hb,readPow_powR,hp];rfl
  ·rw[he pw]
   congr 1;omega
theorem dbl_noPow(l d r:List UInt8)(sg v p:Int)(wd:Bool)(hd:rest1 l=48::120::d)(hD:DigAns d v p wd r true)(hp:powR r=none):DblAns l sg 0 0 false false:=by
 rcases hD with⟨h,-⟩|⟨-,v0,v1,p0,p1,-,D,b,hb,he⟩
 ·cases h
 ·refine Or.inl ⟨rfl,?_⟩
  rw[hd]
  show readBody d=_
  rw[hb,readPow_powR,hp];rfl
theorem dbl_noDig(l d:List UInt8)(sg:Int)(hd:rest1 l=48::120::d)(hD:readBody d=none):DblAns l sg 0 0 false false:=
 Or.inl ⟨rfl,by rw[hd];exact hD⟩
theorem dbl_noMark(l:List UInt8)(sg:Int)(hd:∀d,rest1 l≠48::120::d):DblAns l sg 0 0 false false:=by
 refine Or.inl ⟨rfl,?_⟩
 unfold bodyR
 split
 ·rename_i r e;exact absurd e (hd r)
 ·rfl
theorem after_alloc{w w2:World}{x y z:Value}{t:TypeId}(hb:Below (w.alloc (.cells #[x,y,z] t)).heap.size (w.alloc (.cells #[x,y,z] t)) w2) :
  (∀i,w2.cell? ⟨w.heap.size,i,none⟩ = #[x,y,z][i]?)/\(∀i,w2.frozen? ⟨w.heap.size,i,none⟩=false)/\Below w.heap.size w w2:=by
 have lt:w.heap.size<(w.alloc (.cells #[x,y,z] t)).heap.size:=by simp
 refine⟨λi=>?_,λi=>?_,bel_trans ((z2z _ _).alloc (z1z _) _) hb⟩
 ·rw[hb.cell lt]
  exact World.cell?_alloc_new w _ _ _
 ·rw[hb.frozen lt,frozen?_alloc_cells,World.frozen?]
  have:w.heap[w.heap.size]? = none:=Array.getElem?_eq_none (z1z _)
  rw[this]
theorem readDouble_core(s U G:ByteArray)(m mk:Bool)(w:World)(hG:G.size<=64)
  (c1:∀w,Calls prog 41 #[.string s,.string ⟨#[45]⟩] w λe w'=>e=.returned (.tuple #[.string U,.bool m])/\w'=w)
  (c2:∀w,Calls prog 41 #[.string U,.string ⟨#[48,120]⟩] w λe w'=>e=.returned (.tuple #[.string G,.bool mk])/\w'=w)
  (l:List UInt8) (hm:m=minus1 l) (hmk:(mk=true/\rest1 l=48::120::G.data.toList)\/(mk=false/\∀d,rest1 l≠48::120::d)) :
  Calls prog 22 #[.string s] w λe w'=>(∃sg v p wd ok,e=.returned (.tuple #[.int .u64 sg,.agg #[.int .u64 v,.int .i64 p,.bool wd],.bool ok])/\DblAns l sg v p wd ok)/\Below w.heap.size w w':=by
 have HM:=hid hm
 clear hm
 rcases hmk with⟨rfl,hd⟩|⟨rfl,hd⟩
 ·have HD:=hid hd
  clear hd
  cases m with
  | false=>
   go_enter func22,ntmps22
   go_upto_region 8 with(first|((with_reducible (apply Calls.mono;first|exact c1 _|exact c2 _));rintro e w' ⟨rfl,rfl⟩)|(go_at_call 42;refine(readDigits_c G hG _).mono ?_;rintro e w2 ⟨⟨v,p,wd,r,ok,rfl,hans⟩,hb⟩;obtain⟨hc,hf,hB⟩:=after_alloc hb;(have a0:=hc 0);(have a1:=hc 1);(have a2:=hc 2);(have f0:=hf 0);(have f1:=hf 1);(have f2:=hf 2);simp at a0 a1 a2))
   generalize hW:z0z (z0z (z0z w2 _ _) _ _) _ _=W3
   obtain⟨c3,g3⟩:=stored3 hW hc (z1z _) hB
   have z3:∀i,W3.frozen? ⟨w.heap.size,i,none⟩=false:=by
    rw[<- hW];intro i;rw[z3z,z3z,z3z];exact hf i
   clear hW hb a0 a1 a2 f0 f1 f2 hc hf hB
   have a0:=c3 0
   have a1:=c3 1
   have a2:=c3 2
   have f0:=z3 0
   have f1:=z3 1
   have f2:=z3 2
   simp at a0 a1 a2
   have C3:=hid c3
   have Z3:=hid z3
   clear c3 z3
   cases ok with
   | false=>
    have hn:readBody G.data.toList=none:=by
     rcases hans with⟨-,h⟩|⟨h,-⟩
     ·exact h
     ·cases h
    have R:=hid (dbl_noDig l G.data.toList 0 HD.out hn)
    clear hn hans
    go_wp2_with fail
    generalize hV:z0z (z0z (z0z _ _ _) _ _) _ _=V
    obtain⟨fR,gR⟩:=stored3 hV C3.out (z1z _) g3
    exact bodyPost_ret (v:=.tuple #[.int .u64 0,.agg #[.int .u64 0,.int .i64 0,.bool false],.bool false]) (by simp[results,results22,go_sem,fR]) rfl ⟨⟨_,_,_,_,_,rfl,R.out⟩,gR⟩
   | true=>
    have rb:-1000<=p/\p<=1000/\r.length<=G.data.toList.length:=by
     rcases hans with⟨h,-⟩|⟨-,-,-,h1,h2,h3,-⟩
     ·cases h
     ·exact⟨h1,h2,h3⟩
    obtain⟨p0,p1,rl⟩:=rb
    have hsz:(⟨r.toArray⟩:ByteArray).size=r.length:=by rw[<- size_list]
    have gl:=size_list G
    have cp:=readPower_c ⟨r.toArray⟩ (by unfold maxLen;omega)
    clear hsz gl rl
    cases hp:powR r with
    | none=>
     have R:=hid (dbl_noPow l G.data.toList r 0 v p wd HD.out hans hp)
     have ep:powR (⟨r.toArray⟩:ByteArray).data.toList=none:=hp
     rw[ep] at cp
     clear hans hp ep
     go_wp2_with (go_at_call 43;(with_reducible refine(cp _).mono ?_);rintro e w' ⟨rfl,rfl⟩)
     generalize hV:z0z (z0z (z0z _ _ _) _ _) _ _=V
     obtain⟨fR,gR⟩:=stored3 hV C3.out (z1z _) g3
     exact bodyPost_ret (v:=.tuple #[.int .u64 0,.agg #[.int .u64 0,.int .i64 0,.bool false],.bool false]) (by simp[results,results22,go_sem,fR]) rfl ⟨⟨_,_,_,_,_,rfl,R.out⟩,gR⟩
    | some pw=>
     obtain⟨q0,q1⟩:=powR_range r pw hp
     have R:=hid (dbl_ok l G.data.toList r 0 v p pw wd HD.out (by rw[<- HM.out];rfl) hans hp)
     have ep:powR (⟨r.toArray⟩:ByteArray).data.toList=some pw:=hp
     rw[ep] at cp
     clear hans hp ep
     go_upto_region 14 with(go_at_call 43;(with_reducible refine(cp _).mono ?_);rintro e w' ⟨rfl,rfl⟩)
     generalize hV:z0z _ _ _=V
     have cV:∀i,V.cell? ⟨w.heap.size,i,none⟩ = #[Value.int .u64 v,.int .i64 (p+pw),.bool wd][i]?:=by rw[<- hV];exact set_at C3.out _ (show 1<3 by decide)
     have gV:Below w.heap.size w V:=by rw[<- hV];exact g3.setCell (p:=⟨w.heap.size,1,none⟩) (z1z _) _
     have zV:∀i,V.frozen? ⟨w.heap.size,i,none⟩=false:=by rw[<- hV];intro i;rw[z3z];exact Z3.out i
     have b0:=cV 0
     have b1:=cV 1
     have b2:=cV 2
     have y0:=zV 0
     have y1:=zV 1
     have y2:=zV 2
     simp at b0 b1 b2
     have CV:=hid cV
     clear a0 a1 a2 f0 f1 f2 hV cV zV
     go_region
     go_wp2_with fail
     generalize hX:z0z (z0z (z0z _ _ _) _ _) _ _=X
     obtain⟨fR,gR⟩:=stored3 hX CV.out (z1z _) gV
     exact bodyPost_ret (v:=.tuple #[.int .u64 0,.agg #[.int .u64 v,.int .i64 (p+pw),.bool wd],.bool true]) (by simp[results,results22,go_sem,fR]) rfl ⟨⟨_,_,_,_,_,rfl,R.out⟩,gR.drew⟩
  | true=>
   go_enter func22,ntmps22
   go_upto_region 8 with(first|((with_reducible (apply Calls.mono;first|exact c1 _|exact c2 _));rintro e w' ⟨rfl,rfl⟩)|(go_at_call 42;refine(readDigits_c G hG _).mono ?_;rintro e w2 ⟨⟨v,p,wd,r,ok,rfl,hans⟩,hb⟩;obtain⟨hc,hf,hB⟩:=after_alloc hb;(have a0:=hc 0);(have a1:=hc 1);(have a2:=hc 2);(have f0:=hf 0);(have f1:=hf 1);(have f2:=hf 2);simp at a0 a1 a2))
   generalize hW:z0z (z0z (z0z w2 _ _) _ _) _ _=W3
   obtain⟨c3,g3⟩:=stored3 hW hc (z1z _) hB
   have z3:∀i,W3.frozen? ⟨w.heap.size,i,none⟩=false:=by
    rw[<- hW];intro i;rw[z3z,z3z,z3z];exact hf i
   clear hW hb a0 a1 a2 f0 f1 f2 hc hf hB
   have a0:=c3 0
   have a1:=c3 1
   have a2:=c3 2
   have f0:=z3 0
   have f1:=z3 1
   have f2:=z3 2
   simp at a0 a1 a2
   have C3:=hid c3
   have Z3:=hid z3
   clear c3 z3
   cases ok with
   | false=>
    have hn:readBody G.data.toList=none:=by
     rcases hans with⟨-,h⟩|⟨h,-⟩
     ·exact h
     ·cases h
    have R:=hid (dbl_noDig l G.data.toList 0 HD.out hn)
    clear hn hans
    go_wp2_with fail
    generalize hV:z0z (z0z (z0z _ _ _) _ _) _ _=V
    obtain⟨fR,gR⟩:=stored3 hV C3.out (z1z _) g3
    exact bodyPost_ret (v:=.tuple #[.int .u64 0,.agg #[.int .u64 0,.int .i64 0,.bool false],.bool false]) (by simp[results,results22,go_sem,fR]) rfl ⟨⟨_,_,_,_,_,rfl,R.out⟩,gR⟩
   | true=>
    have rb:-1000<=p/\p<=1000/\r.length<=G.data.toList.length:=by
     rcases hans with⟨h,-⟩|⟨-,-,-,h1,h2,h3,-⟩
     ·cases h
     ·exact⟨h1,h2,h3⟩
    obtain⟨p0,p1,rl⟩:=rb
    have hsz:(⟨r.toArray⟩:ByteArray).size=r.length:=by rw[<- size_list]
    have gl:=size_list G
    have cp:=readPower_c ⟨r.toArray⟩ (by unfold maxLen;omega)
    clear hsz gl rl
    cases hp:powR r with
    | none=>
     have R:=hid (dbl_noPow l G.data.toList r 0 v p wd HD.out hans hp)
     have ep:powR (⟨r.toArray⟩:ByteArray).data.toList=none:=hp
     rw[ep] at cp
     clear hans hp ep
     go_wp2_with (go_at_call 43;(with_reducible refine(cp _).mono ?_);rintro e w' ⟨rfl,rfl⟩)
     generalize hV:z0z (z0z (z0z _ _ _) _ _) _ _=V
     obtain⟨fR,gR⟩:=stored3 hV C3.out (z1z _) g3
     exact bodyPost_ret (v:=.tuple #[.int .u64 0,.agg #[.int .u64 0,.int .i64 0,.bool false],.bool false]) (by simp[results,results22,go_sem,fR]) rfl ⟨⟨_,_,_,_,_,rfl,R.out⟩,gR⟩
    | some pw=>
     obtain⟨q0,q1⟩:=powR_range r pw hp
     have R:=hid (dbl_ok l G.data.toList r 9223372036854775808 v p pw wd HD.out (by rw[<- HM.out];rfl) hans hp)
     have ep:powR (⟨r.toArray⟩:ByteArray).data.toList=some pw:=hp
     rw[ep] at cp
     clear hans hp ep
     go_upto_region 14 with(go_at_call 43;(with_reducible refine(cp _).mono ?_);rintro e w' ⟨rfl,rfl⟩)
     generalize hV:z0z _ _ _=V
     have cV:∀i,V.cell? ⟨w.heap.size,i,none⟩ = #[Value.int .u64 v,.int .i64 (p+pw),.bool wd][i]?:=by rw[<- hV];exact set_at C3.out _ (show 1<3 by decide)
     have gV:Below w.heap.size w V:=by rw[<- hV];exact g3.setCell (p:=⟨w.heap.size,1,none⟩) (z1z _) _
     have zV:∀i,V.frozen? ⟨w.heap.size,i,none⟩=false:=by rw[<- hV];intro i;rw[z3z];exact Z3.out i
     have b0:=cV 0
     have b1:=cV 1
     have b2:=cV 2
     have y0:=zV 0
     have y1:=zV 1
     have y2:=zV 2
     simp at b0 b1 b2
     have CV:=hid cV
     clear a0 a1 a2 f0 f1 f2 hV cV zV
     go_region
     go_wp2_with fail
     generalize hX:z0z (z0z (z0z _ _ _) _ _) _ _=X
     obtain⟨fR,gR⟩:=stored3 hX CV.out (z1z _) gV
     exact bodyPost_ret (v:=.tuple #[.int .u64 9223372036854775808,.agg #[.int .u64 v,.int .i64 (p+pw),.bool wd],.bool true]) (by simp[results,results22,go_sem,fR]) rfl ⟨⟨_,_,_,_,_,rfl,R.out⟩,gR.drew⟩
 ·have R:=hid (dbl_noMark l 0 hd)
  clear hd
  cases m <;>
  ·go_enter func22,ntmps22
   go_wp2_with (go_at_call 41;(first|(with_reducible refine(c1 _).mono ?_)|(with_reducible refine(c2 _).mono ?_));rintro e w' ⟨rfl,rfl⟩)
   exact bodyPost_ret (v:=.tuple #[.int .u64 0,.agg #[.int .u64 0,.int .i64 0,.bool false],.bool false]) (by simp[results,results22,go_sem]) rfl ⟨⟨_,_,_,_,_,rfl,R.out⟩,(z2z _ _).alloc (z1z _) _⟩
theorem readDouble_c(s:ByteArray)(hs:s.size<=64)(w:World) :
  Calls prog 22 #[.string s] w λe w'=>(∃sg v p wd ok,e=.returned (.tuple #[.int .u64 sg,.agg #[.int .u64 v,.int .i64 p,.bool wd],.bool ok])/\DblAns s.data.toList sg v p wd ok)/\Below w.heap.size w w':=by
 have sz:=size_list s
 have rl:=rest_len s.data.toList
 have hsz:∀x:List UInt8,(⟨x.toArray⟩:ByteArray).size=x.length:=λx=>by rw[<- size_list]
 have c2:=λw=>cutPrefix_c ⟨(rest1 s.data.toList).toArray⟩ ⟨#[48,120]⟩ w
 rcases prefix_two (rest1 s.data.toList) 48 120 with⟨h1,h2⟩|⟨h1,h2,h3⟩
 ·have e1:Lib.hasPrefix (⟨(rest1 s.data.toList).toArray⟩:ByteArray).data.toList (⟨#[48,120]⟩:ByteArray).data.toList=true:=h1
  generalize hd:z8z (rest1 s.data.toList) [48,120]=d at h2
  have e2:z8z (⟨(rest1 s.data.toList).toArray⟩:ByteArray).data.toList (⟨#[48,120]⟩:ByteArray).data.toList=d:=hd
  rw[e1,e2] at c2
  have dl:d.length<=(rest1 s.data.toList).length:=by rw[h2];simp;omega
  exact readDouble_core s _ _ _ _ w (by rw[hsz];omega) (cutMinus_c s) c2 s.data.toList rfl (Or.inl ⟨rfl,h2⟩)
 ·have e1:Lib.hasPrefix (⟨(rest1 s.data.toList).toArray⟩:ByteArray).data.toList (⟨#[48,120]⟩:ByteArray).data.toList=false:=h1
  have e2:z8z (⟨(rest1 s.data.toList).toArray⟩:ByteArray).data.toList (⟨#[48,120]⟩:ByteArray).data.toList=rest1 s.data.toList:=h2
  rw[e1,e2] at c2
  exact readDouble_core s _ _ _ _ w (by rw[hsz];omega) (cutMinus_c s) c2 s.data.toList rfl (Or.inr ⟨rfl,h3⟩)
def namD(l:List UInt8):Option Int:=if l=nanT then some 9221120237041090560 else if l=infT then some 9218868437227405312 else if l=45::infT then some 18442240474082181120 else none
def namV(o:Option Int):Value:=.tuple #[.int .u64 (o.getD 0),.bool o.isSome]
theorem named_c(s:ByteArray)(w:World) :
  Calls prog 21 #[.string s] w λe w'=>e=.returned (namV (namD s.data.toList))/\w'=w:=by
 have es:s.toList=s.data.toList:=toList_eq s
 by_cases h1:s.data.toList=nanT
 ·have H:=hid (show namD s.data.toList=some 9221120237041090560 by unfold namD;rw[if_pos h1])
  have q:(s.toList==[110,97,110])=true:=by rw[es,h1];rfl
  clear es h1
  go_enter func21,ntmps21
  go_wp2_with fail
  go_ret2
  exact⟨by rw[H.out];rfl,rfl⟩
 ·have q:(s.toList==[110,97,110])=false:=by rw[es,beq_eq_false_iff_ne];exact h1
  by_cases h2:s.data.toList=infT
  ·have H:=hid (show namD s.data.toList=some 9218868437227405312 by unfold namD;rw[if_neg h1,if_pos h2])
   have q2:(s.toList==[105,110,102])=true:=by rw[es,h2];rfl
   clear es h1 h2
   go_enter func21,ntmps21
   go_wp2_with fail
   go_ret2
   exact⟨by rw[H.out];rfl,rfl⟩
  ·have q2:(s.toList==[105,110,102])=false:=by rw[es,beq_eq_false_iff_ne];exact h2
   by_cases h3:s.data.toList=45::infT
   ·have H:=hid (show namD s.data.toList=some 18442240474082181120 by unfold namD;rw[if_neg h1,if_neg h2,if_pos h3])
    have q3:(s.toList==[45,105,110,102])=true:=by rw[es,h3];rfl
    clear es h1 h2 h3
    go_enter func21,ntmps21
    go_wp2_with fail
    go_ret2
    exact⟨by rw[H.out];rfl,rfl⟩
   ·have H:=hid (show namD s.data.toList=none by unfold namD;rw[if_neg h1,if_neg h2,if_neg h3])
    have q3:(s.toList==[45,105,110,102])=false:=by rw[es,beq_eq_false_iff_ne];exact h3
    clear es h1 h2 h3
    go_enter func21,ntmps21
    go_wp2_with fail
    go_ret2
    exact⟨by rw[H.out];rfl,rfl⟩
theorem readF_named(l:List UInt8)(x:Int)(h:namD l=some x):readF l=(x,0):=by
 have nl:l=nanT\/l=infT\/l=45::infT:=by
  unfold namD at h
  by_cases h1:l=nanT
  ·exact Or.inl h1
  ·by_cases h2:l=infT
   ·exact Or.inr (Or.inl h2)
   ·by_cases h3:l=45::infT
    ·exact Or.inr (Or.inr h3)
    ·rw[if_neg h1,if_neg h2,if_neg h3] at h;cases h
 rcases nl with rfl|rfl|rfl <;> (have e:some x=_:=h.symm;injection e with e;subst e;rfl)
theorem readF_nameless(l:List UInt8)(h64:l.length<=64)(h:namD l=none):readF l=ansF (sgI (minus1 l)) (bodyR (rest1 l)):=by
 unfold namD at h
 by_cases h1:l=nanT
 ·rw[if_pos h1] at h;cases h
 ·rw[if_neg h1] at h
  by_cases h2:l=infT
  ·rw[if_pos h2] at h;cases h
  ·rw[if_neg h2] at h
   by_cases h3:l=45::infT
   ·rw[if_pos h3] at h;cases h
   ·exact readF_ans l h64 h1 h2 h3
theorem or_sign(m:Bool)(a:Int)(a0:0<=a)(a1:a<9218868437227405312):bits .or .u64 (sgI m) a=sgI m+a:=by
 obtain⟨n,rfl⟩:=z9z a0
 cases m with
 | false=>
  have:=u64_or_nat 0 n (by decide) (by omega)
  rw[Nat.zero_or] at this
  show bits .or .u64 ((0:Nat):Int) (n:Int)=0+(n:Int)
  rw[this];omega
 | true=>
  show bits .or .u64 ((9223372036854775808:Nat):Int) (n:Int)=9223372036854775808+(n:Int)
  rw[u64_or_nat _ _ (by decide) (by omega),nat_join 63 _ _ (by decide) (by omega)]
  omega
theorem parseFloat_c(s:ByteArray)(hs:s.size<=maxLen)(w:World)(ht:Tabs w) :
  Calls prog 14 #[.string s] w λe w'=>e=.returned (.tuple #[.int .u64 (readF s.data.toList).1,.int .i64 (readF s.data.toList).2])/\Below w.heap.size w w':=by
 unfold maxLen at hs
 have sl:=size_list s
 by_cases c:s.size<=64
 ·cases hn:namD s.data.toList with
  | some x=>
   have H:=hid (readF_named _ _ hn)
   have cn:=named_c s
   rw[hn] at cn
   clear hn sl
   go_enter func14,ntmps14
   go_wp2_with (go_at_call 21;refine(cn _).mono ?_;rintro e w' ⟨rfl,rfl⟩;simp only[namV,Option.getD_some,Option.isSome_some])
   go_ret2
   exact⟨ret_ii (by rw[H.out]) (by rw[H.out]),z2z _ _⟩
  | none=>
   have H:=hid (readF_nameless _ (by omega) hn)
   have cn:=named_c s
   rw[hn] at cn
   clear hn sl
   go_enter func14,ntmps14
   go_upto_region 7 with(first|(go_at_call 21;refine(cn _).mono ?_;rintro e w' ⟨rfl,rfl⟩;simp only[namV,Option.getD_none,Option.isSome_none])|(go_at_call 22;refine(readDouble_c s c _).mono ?_;rintro e w2 ⟨⟨sg,v,p,wd,ok,rfl,hans⟩,hb⟩))
   have ht3:Tabs (w2.alloc (Obj.cells #[Value.int .u64 v,.int .i64 p,.bool wd] 62)):=(ht.below hb).below ((z2z _ _).alloc (z1z _) _)
   have b3:=hb.alloc hb.size (Obj.cells #[Value.int .u64 v,.int .i64 p,.bool wd] 62)
   cases ok with
   | false=>
    have hn:bodyR (rest1 s.data.toList)=none:=by
     rcases hans with⟨-,h⟩|⟨h,-⟩
     ·exact h
     ·cases h
    have H2:=hid (show readF s.data.toList=(0,20) by rw[H.out,hn];rfl)
    clear hn hans ht3
    go_wp2_with fail
    go_ret2
    exact⟨ret_ii (by rw[H2.out]) (by rw[H2.out]),b3⟩
   | true=>
    rcases hans with⟨h,-⟩|⟨-,hsg,v0,v1,p0,p1,N,low,hbd,hex⟩
    ·cases h
    have cp:=numPattern_c v p wd v0 v1 p0 p1 _ ht3
    cases ho:numP v.toNat wd p with
    | none=>
     have H2:=hid (show readF s.data.toList=(0,21) by rw[H.out,hbd];unfold ansF;simp only[hex,ho])
     rw[ho] at cp
     clear hex ho hbd hsg ht3
     go_wp2_with (go_at_call 23;refine cp.mono ?_;rintro e w4 ⟨rfl,hb4⟩;simp only[patV,Option.getD_none,Option.isSome_none])
     go_ret2
     exact⟨ret_ii (by rw[H2.out]) (by rw[H2.out]),bel_trans b3 hb4⟩
    | some a=>
     obtain⟨a0,a1⟩:=exact_range N low a (hex.trans ho)
     have H2:=hid (show readF s.data.toList=(sg+a,0) by rw[H.out,hbd,<- hsg];unfold ansF;simp only[hex,ho])
     have ho2:bits .or .u64 sg a=sg+a:=by rw[hsg];exact or_sign _ a a0 a1
     rw[ho] at cp
     clear hex ho hbd hsg ht3
     go_wp2_with (go_at_call 23;refine cp.mono ?_;rintro e w4 ⟨rfl,hb4⟩;simp only[patV,Option.getD_some,Option.isSome_some])
     go_ret2
     exact⟨ret_ii (by rw[H2.out]) (by rw[H2.out]),bel_trans b3 hb4⟩
 ·have E:readF s.data.toList=(0,2):=by unfold readF;rw[if_pos (by omega)]
  have H:=hid E
  clear E
  go_enter func14,ntmps14
  go_wp2_with fail
  go_ret2
  exact⟨ret_ii (by rw[H.out]) (by rw[H.out]),z2z _ _⟩
end Go.Proofs.YtknkedihmmbanaaDoor.W
